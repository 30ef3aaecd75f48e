import PyProof.Rows.All
import Wide.All
import OpenK.AllK
import Wide.FinOn
import HandS.ForMost
import HandS.Wide
import HandS.Gcd
import HandS.More
import HandS.IsInst
import HandS.Defaults
import HandS.SortInts
import HandS.Zip
import HandS.TupAny
import HandS.Conv
import HandS.Style
import HandS.RaiseMore
import HandS.Head0
import HandS.Head1
import HandS.Head2
import HandS.Head3
import HandS.HeadEnd
import HandS.HeadHook1
import HandS.HeadHook2
import HandS.Small
import KE.GoesEnum
import KE.KExcInit
import HandS.ForSpec
import HandS.ExcOwn
import HandS.Lambda
import HandS.EndTab
import HandS.HeadHook4
import HandS.HeadWalk
import PyProof.ExcBaseAll.IndexError
import PyProof.ExcBaseAll.RuntimeError
import PyProof.ExcBaseAll.OverflowError
import PyProof.ExcBaseAll.ArithmeticError
import PyProof.ExcBaseAll.LookupError
import HandS.TryMany
import PyProof.ReprRoads
import HandS.EndBits
import PySem.Challenge.RW_zeroorone_k07_errors_of_primes
set_option Elab.async false
set_option linter.all false
set_option maxRecDepth 100000
set_option maxHeartbeats 2000000
namespace L2.Z
open PySem PySem.Spec PyProof.Rows
abbrev rAdd : R2 := rI0 fun i j => .int (i + j)
abbrev rSub : R2 := rI0 fun i j => .int (i - j)
abbrev rModU : R2 := rI (fun _ j => 0 < j) fun i j => .int (i % j)
abbrev rDivU : R2 := rI CDivW fun i j => .int (i / j)
abbrev rPowU : R2 := rI CPow fun i j => .int (i ^ j.toNat)
abbrev rMulU : R2 := rI (fun i j => CMul i j ∨ CMulW i j) fun i j => .int (i * j)
abbrev rNeg : V → Hp → VK → Prop := rU fun i => .int (-i)
/-- // by any divisor but 0 below 2 ^ 9000 -/
def CDivZ (_ j : Int) : Prop := j ≠ 0 ∧ j.natAbs.log2 < 9000
abbrev rDivZ : R2 := rI CDivZ fun i j => .int (i.fdiv j)
theorem op_fdivZ {X : Cx} : OpR X (binaryOp .FloorDiv) rDivZ := opI fun i j _ _ _ _ _ hc q => floordiv_int hc.1 q (.inl (PyProof.noPylong_of_log2 hc.2))
abbrev rStrI : List V → Hp → VK → Prop := fun xs H Q => ∃ i : Int, xs = [.int i] ∧ i.natAbs.log2 < 1920 ∧ Q (.str (toString i)) H
/-- repr of plain values -/
def tTru (K : PySem.W.Frag) (te : TE) : TT := fun σ H Qt => te σ H fun x H1 => ∃ k, TruV K x H1 k ∧ Qt k H1
theorem pt_tru {X : Cx} {K : PySem.W.Frag} {a : PySem.Expr} {ta : TE} (hk : X.K = K) (h : PE X a ta) (he : ∀ whole : PySem.Sem PySem.Value, PySem.isTrue a X.env whole = do
          let v ← whole
          PySem.standAt a.pos
          PySem.holding [v] (PySem.truthy v)) : PT X a (tTru K ta) := by
  subst hk
  exact pt_truth h he
def rMinT : List V → Hp → VK → Prop := fun vs H Q => ∃ (a : Addr) (ns : List Int), vs = [.ref a] ∧ H a = some (.tup (ns.map V.int)) ∧ 0 < ns.length ∧ ∀ m, m ∈ ns → (∀ y ∈ ns, m ≤ y) → Q (.int m) H
theorem vals_ints : ∀ {ns : List Int} {its : List Value}, Vals (ns.map V.int) its → its.length = ns.length ∧ ∀ (i : Nat) (v : Value), its[i]? = some v → ∃ t, v = Value.int (ns.getD i 0) t := by
  intro ns
  induction ns with
  | nil => intro its h; cases h; exact ⟨rfl, fun i v e => by simp at e⟩
  | cons n r ih =>
    intro its h
    cases h with
    | cons h1 h2 =>
      obtain ⟨l, g⟩ := ih h2
      refine ⟨by simp [l], fun i v e => ?_⟩
      cases i with
      | zero =>
        simp only [List.getElem?_cons_zero, Option.some.injEq] at e
        subst e
        obtain ⟨t, e⟩ := h1
        exact ⟨t, by simpa using e⟩
      | succ i =>
        rw [List.getElem?_cons_succ] at e
        obtain ⟨t, e⟩ := g i v e
        exact ⟨t, by simpa using e⟩
theorem cr_minT {X : Cx} (hc : X.calm = true) : CallR X (.builtin "min") rMinT := by
  intro pins s σ H xs us Q I r h
  obtain ⟨a, ns, rfl, hT, hn, hq⟩ := h
  obtain ⟨u, rfl, r1⟩ := vals1 r
  cases (show u = Value.ref a from r1)
  obtain ⟨its, hv, hI, _⟩ := I.tuple (.inl (.inl hT))
  obtain ⟨hl, hg⟩ := vals_ints hv
  refine PySem.call_min_walk ?_
  refine PySem.wpAny_pyIter_tuple (items := its.toArray) ?_ ?_
  · exact hI
  · obtain ⟨o, ho, hcl, hdt⟩ := hI
    have hlt : a < s.heap.objs.size := by
      refine Nat.lt_of_not_le fun c => ?_
      have : s.heap.get? a = none := by
        simp [PySem.Heap.get?, c]
      rw [ho] at this
      cases this
    have hne : a ≠ s.heap.objs.size := Nat.ne_of_lt hlt
    have push_old : ∀ (b : Addr) (u x : Obj), s.heap.get? b = some u → (s.heap.push x).get? b = some u := fun b u x hb => by
      have hlb : b < s.heap.objs.size := by
        refine Nat.lt_of_not_le fun c => ?_
        have : s.heap.get? b = none := by simp [PySem.Heap.get?, c]
        rw [hb] at this
        cases this
      simp only [PySem.Heap.get?, PySem.Heap.push] at hb ⊢
      rw [Array.getElem?_push, if_neg (Nat.ne_of_lt hlb)]
      exact hb
    refine ⟨_, _, _, _, _, _, _, rfl, PySem.Walks.tuple ?_ s.heap.objs.size a hne its.toArray, ⟨⟨{ cls := Value.type "tuple_iterator", data := Data.fields #[Value.ref a, Value.int 0 0] }, ?_, rfl, rfl⟩, ⟨o, push_old a o _ ho, hcl, hdt⟩⟩, ?_, ?_, PySem.CmpOf.ints_lt (fun i => ns.getD i 0) (fun i v e => hg i v (by simpa using e)), fun v h' tk hP hk => ?_⟩
    · exact (I.ok.hd hc)
    · simp [PySem.Heap.get?, PySem.Heap.push]
    · intro b hb
      have : (s.heap.push { cls := Value.type "tuple_iterator", data := Data.fields #[Value.ref a, Value.int 0 0] }).objs.size = s.heap.objs.size + 1 := by simp [PySem.Heap.push]
      show b < (s.heap.push { cls := Value.type "tuple_iterator", data := Data.fields #[Value.ref a, Value.int 0 0] }).objs.size
      rw [this]
      simp only [List.mem_cons, List.not_mem_nil, or_false] at hb
      rcases hb with rfl | rfl
      · exact Nat.lt_succ_self _
      · exact Nat.lt_succ_of_lt hlt
    · simp only [List.size_toArray]; omega
    · obtain ⟨b1, b2⟩ := PySem.argBest_lt (fun i => ns.getD i 0) (its.toArray.size - 1)
      generalize argBest (fun i j => decide (ns.getD i 0 < ns.getD j 0)) (its.toArray.size - 1) = k at *
      simp only [List.size_toArray] at b1 b2
      obtain ⟨t, rfl⟩ := hg k v (by simpa using hP)
      have hk1 : k < ns.length := by omega
      refine ⟨.int (ns.getD k 0), H, I.kept (h' := h') (t' := tk) (fun b u hb => hk b u ?_ (push_old b u _ hb)), ⟨t, rfl⟩, hq _ ?_ fun y hy => ?_⟩
      · intro c
        rw [List.mem_singleton] at c
        subst c
        simp [PySem.Heap.get?] at hb
      · rw [List.getD_eq_getElem?_getD, List.getElem?_eq_getElem hk1]
        exact List.getElem_mem hk1
      · obtain ⟨j, hj, rfl⟩ := List.getElem_of_mem hy
        have := b2 j (by omega)
        rw [List.getD_eq_getElem?_getD (i := j), List.getElem?_eq_getElem hj] at this
        exact this
def rSortedDI : List V → Hp → VK → Prop := fun xs H Q => ∃ (a : Addr) (kvs : List (Key × V)) (ks : List Int), xs = [.ref a] ∧ Rd H a (.dK kvs) ∧ kvs.map (·.1) = ks.map Sum.inl ∧ ks.length < 64 ∧ ∀ (ys : List Int) (p : Addr), ys.Perm ks → ys.Pairwise (· ≤ ·) → H p = none → Q (.ref p) (upd H p (.lst (ys.map V.int)))
theorem cr_sortedDI {X : Cx} (hc : X.calm = true) : CallR X (.builtin "sorted") rSortedDI := call_sortedDI hc
def rReprU : List V → Hp → VK → Prop := fun xs H Q => (∃ i : Int, xs = [.int i] ∧ i.natAbs.log2 < 1920 ∧ Q (.str (toString i)) H) ∨ (∃ b : Bool, xs = [.bl b] ∧ Q (.str (if b then "True" else "False")) H) ∨ (xs = [.non] ∧ Q (.str "None") H)
theorem cr_reprU {X : Cx} : CallR X (.builtin "repr") rReprU := by
  intro pins s σ H xs us Q I r h
  rcases h with h | ⟨b, e, q⟩ | ⟨e, q⟩
  · exact SkE.call_repr_int pins s σ H xs us Q I r h
  · subst e
    obtain ⟨u, e1, r1⟩ := vals1 r
    subst e1
    cases (show u = Value.bool b from r1)
    exact PySem.P.repr_of_bool ⟨.str _, H, I.tok _, ⟨_, rfl⟩, q⟩
  · subst e
    obtain ⟨u, e1, r1⟩ := vals1 r
    subst e1
    cases (show u = Value.none from r1)
    exact PySem.P.repr_of_none ⟨.str _, H, I.tok _, ⟨_, rfl⟩, q⟩
abbrev rLtI : R2 := rI0 fun i j => .bl (decide (i < j))
abbrev rLeI : R2 := rI0 fun i j => .bl (decide (i ≤ j))
abbrev rGtI : R2 := rI0 fun i j => .bl (decide (j < i))
abbrev rGeI : R2 := rI0 fun i j => .bl (decide (j ≤ i))
abbrev rLenU (K : PySem.W.Frag) : List V → Hp → VK → Prop := fun xs H Q => ∃ p ys, xs = [.ref p] ∧ (SqL K H p ys ∨ SqT K H p ys) ∧ Q (.int ys.length) H
abbrev rAbs : List V → Hp → VK → Prop := fun xs H Q => ∃ i : Int, xs = [.int i] ∧ Q (.int (if i < 0 then -i else i)) H
abbrev rMax2 : List V → Hp → VK → Prop := fun xs H Q => ∃ i j : Int, xs = [.int i, .int j] ∧ Q (.int (if j > i then j else i)) H
abbrev rMin2 : List V → Hp → VK → Prop := fun xs H Q => ∃ i j : Int, xs = [.int i, .int j] ∧ Q (.int (if j < i then j else i)) H
abbrev rInt1 : List V → Hp → VK → Prop := fun xs H Q => (∃ i, xs = [.int i] ∧ Q (.int i) H) ∨ ∃ k, xs = [.bl k] ∧ Q (.int (if k then 1 else 0)) H
abbrev rTupOf (K : PySem.W.Frag) : List V → Hp → VK → Prop := fun xs H Q => ∃ p ys, xs = [.ref p] ∧ ((SqL K H p ys ∧ ∀ l, H l = none → Q (.ref l) (upd H l (.tup ys))) ∨ (SqT K H p ys ∧ Q (.ref p) H))
abbrev rListOf (K : PySem.W.Frag) : List V → Hp → VK → Prop := fun xs H Q => ∃ p ys, xs = [.ref p] ∧ (SqL K H p ys ∨ SqT K H p ys) ∧ ∀ l, H l = none → Q (.ref l) (upd H l (.lst ys))
abbrev rIxA (K : PySem.W.Frag) : R2 := fun x y H Q => rIxL K x y H Q ∨ rIxT K x y H Q
theorem ix_lt {X : Cx} : IxR X (rIxA X.K) := ix_list.or ix_tup
theorem op_mulU {X : Cx} : OpR X (binaryOp .Mult) rMulU := opI fun _ _ _ _ _ _ _ hc q => mul_int q (hc.elim CMul.ok CMulW.ok)
theorem hu64_of {A : Around} {k : Nat} (hr : Room k A) : A.units + 64 < cLine := by have := hr.un; omega
def Okk (P : Program) (w : World) (K : PySem.W.Frag) (mg : Str → Option Value) (base : Heap) (k : Nat) (x : Str) (ps : List Str) (sp : Sp) : Prop :=
  ∃ fd, FnOk P w K mg base CX0 k (He.ga K x) fd ps sp ∧ Binds K fd ps [] ∧ mg x = some (.ref (He.ga K x)) ∧ PySem.W.keepIn K (.ref (He.ga K x)) = true
def LcW (J : It) (H1 : Hp) (g : TG) (tt : TT) (te : TE) (vs : List Nat) (σ : St) (Q : VK) : Prop := tLc (fun _ _ R => R J H1) g tt te vs σ H1 Q
def ForW (J : It) (H1 : Hp) (g : TG) (tb : TS) (D : Ends) (σ : St) : Prop := tFor (fun _ _ R => R J H1) g tb D σ H1
section
variable {σ : St} {H : Hp} {Q : VK} {v x y : V} {ta tb tc te : TE} {r r' : R2} {t u : TT} {n : Nat} {D : Ends} {s s' : TS} {g : TG} {K : PySem.W.Frag} {tl : TA} {QA : List V → Hp → Prop} {QT : Bool → Hp → Prop}
theorem z_var0 : tVar 0 (some v :: σ) H Q = Q v H := propext ⟨fun ⟨_, h, q⟩ => by cases h; exact q, fun q => ⟨_, rfl, q⟩⟩
theorem z_varS {o : Option V} : tVar (n + 1) (o :: σ) H Q = tVar n σ H Q := rfl
theorem z_C : tC v σ H Q = Q v H := rfl
theorem z_op : tOp r ta tb σ H Q = ta σ H fun x H1 => tb σ H1 fun y H2 => r x y H2 Q := rfl
theorem z_un {f : V → Hp → VK → Prop} : tUn f ta σ H Q = ta σ H fun x H1 => f x H1 Q := rfl
theorem z_I0 {f : Int → Int → V} {i j : Int} : rI0 f (.int i) (.int j) H Q = Q (f i j) H := propext ⟨fun ⟨_, _, e1, e2, q⟩ => by cases e1; cases e2; exact q, fun q => ⟨_, _, rfl, rfl, q⟩⟩
theorem z_I {C : Int → Int → Prop} {f : Int → Int → V} {i j : Int} : rI C f (.int i) (.int j) H Q = (C i j ∧ Q (f i j) H) := propext ⟨fun ⟨_, _, e1, e2, q⟩ => by cases e1; cases e2; exact q, fun q => ⟨_, _, rfl, rfl, q⟩⟩
theorem z_U {f : Int → V} {i : Int} : rU f (.int i) H Q = Q (f i) H := propext ⟨fun ⟨_, e1, q⟩ => by cases e1; exact q, fun q => ⟨_, rfl, q⟩⟩
theorem z_eqI {i j : Int} : rEq (.int i) (.int j) H Q = Q (.bl (decide (i = j))) H := by
  have e : decide (V.int i = V.int j) = decide (i = j) := by simp
  unfold rEq; rw [e]; exact propext ⟨fun h => h.2, fun h => ⟨rfl, h⟩⟩
theorem z_neI {i j : Int} : rNe (.int i) (.int j) H Q = Q (.bl (!decide (i = j))) H := by
  have e : decide (V.int i = V.int j) = decide (i = j) := by simp
  unfold rNe; rw [e]; exact propext ⟨fun h => h.2, fun h => ⟨rfl, h⟩⟩
theorem z_bl {b : Bool} {p : Bool → Prop} : (∃ k, V.bl b = V.bl k ∧ p k) = p b := propext ⟨fun ⟨_, e, q⟩ => by cases e; exact q, fun q => ⟨_, rfl, q⟩⟩
theorem z_test : tTest te σ H QT = te σ H fun x H' => ∃ k, x = .bl k ∧ QT k H' := rfl
theorem z_B : tB te σ H QT = te σ H fun x H' => ∃ k, x = .bl k ∧ QT k H' := rfl
theorem z_and : tAnd t u σ H QT = t σ H fun c H1 => if c = true then u σ H1 QT else QT false H1 := rfl
theorem z_or : tOr t u σ H QT = t σ H fun c H1 => if c = true then QT true H1 else u σ H1 QT := rfl
theorem z_not : tNot t σ H QT = t σ H fun c H1 => QT (!c) H1 := rfl
theorem z_andV : tAndV ta tb σ H Q = ta σ H fun x H1 => ∃ c, x = .bl c ∧ if c = true then tb σ H1 Q else Q (.bl false) H1 := rfl
theorem z_orV : tOrV ta tb σ H Q = ta σ H fun x H1 => ∃ c, x = .bl c ∧ if c = true then Q (.bl true) H1 else tb σ H1 Q := rfl
theorem z_notV : tNotV ta σ H Q = ta σ H fun x H1 => ∃ c, x = .bl c ∧ Q (.bl (!c)) H1 := rfl
theorem z_if : tIf t ta tb σ H Q = t σ H fun c H1 => if c = true then ta σ H1 Q else tb σ H1 Q := rfl
theorem z_ifS : tIfS t s s' D σ H = t σ H fun b H1 => if b = true then s D σ H1 else s' D σ H1 := rfl
theorem z_seq : tSeq s s' D σ H = s { D with nx := s' D } σ H := rfl
theorem z_next : tNext D σ H = D.nx σ H := rfl
theorem z_ret : tRet te D σ H = te σ H D.rt := rfl
theorem z_retN : tRetN D σ H = D.rt .non H := rfl
theorem z_asg : tAsg te g D σ H = te σ H fun x H1 => g x σ H1 D.nx := rfl
theorem z_gname {Qg : St → Hp → Prop} : gName n v σ H Qg = Qg (σ.set n (some v)) H := rfl
theorem z_drop : tDrop te D σ H = te σ H fun _ H1 => D.nx σ H1 := rfl
theorem z_nil : tNil σ H QA = QA [] H := rfl
theorem z_cons : tCons te tl σ H QA = te σ H fun x H1 => tl σ H1 fun xs H2 => QA (x :: xs) H2 := rfl
theorem z_call {sp : Sp} {E : XK} : tCall sp [] E tl σ H Q = tl σ H fun vs H1 => sp vs H1 Q E := by unfold tCall; simp only [List.append_nil]
theorem z_CB {f : List V → Hp → VK → Prop} : tCB f tl σ H Q = tl σ H fun vs H1 => f vs H1 Q := rfl
theorem z_par {i j : Nat} : tPar i j tl D σ H = tl σ H fun vs H1 => ∃ v w, vs = [v, w] ∧ D.nx ((σ.set i (some v)).set j (some w)) H1 := rfl
theorem z_pair {v w : V} {p : V → V → Prop} : (∃ a b, [v, w] = [a, b] ∧ p a b) = p v w := propext ⟨fun ⟨_, _, e, q⟩ => by cases e; exact q, fun q => ⟨_, _, rfl, q⟩⟩
theorem z_aug0 {ti : TIp} {σ' : St} {i : Nat} : tAug i te ti D σ H = ∃ x, σ[i]? = some (some x) ∧ te σ H fun y H1 => ti x y H1 fun z H2 => D.nx (σ.set i (some z)) H2 := rfl
theorem z_ipI {f : Int → Int → Int} {i j : Int} : ipI f (.int i) (.int j) H Q = Q (.int (f i j)) H := propext ⟨fun ⟨_, _, e1, e2, q⟩ => by cases e1; cases e2; exact q, fun q => ⟨_, _, rfl, rfl, q⟩⟩
theorem z_abs {i : Int} : rAbs [.int i] H Q = Q (.int (if i < 0 then -i else i)) H := propext ⟨fun ⟨_, e1, q⟩ => by cases e1; exact q, fun q => ⟨_, rfl, q⟩⟩
theorem z_max {i j : Int} : rMax2 [.int i, .int j] H Q = Q (.int (if j > i then j else i)) H := propext ⟨fun ⟨_, _, e1, q⟩ => by cases e1; exact q, fun q => ⟨_, _, rfl, q⟩⟩
theorem z_min {i j : Int} : rMin2 [.int i, .int j] H Q = Q (.int (if j < i then j else i)) H := propext ⟨fun ⟨_, _, e1, q⟩ => by cases e1; exact q, fun q => ⟨_, _, rfl, q⟩⟩
theorem z_int {i : Int} : rInt1 [.int i] H Q = Q (.int i) H := by
  apply propext
  constructor
  · intro h
    rcases h with ⟨_, e, q⟩ | ⟨_, e, _⟩
    · cases e; exact q
    · cases e
  · intro q
    exact Or.inl ⟨_, rfl, q⟩
theorem z_intB {b : Bool} : rInt1 [.bl b] H Q = Q (.int (if b then 1 else 0)) H := by
  apply propext
  constructor
  · intro h
    rcases h with ⟨_, e, _⟩ | ⟨_, e, q⟩
    · cases e
    · cases e; exact q
  · intro q
    exact Or.inr ⟨_, rfl, q⟩
theorem z_gcd {i j : Int} : rGcd [.int i, .int j] H Q = Q (.int ((Nat.gcd i.natAbs j.natAbs : Nat) : Int)) H := propext ⟨fun ⟨_, _, e, q⟩ => by cases e; exact q, fun q => ⟨_, _, rfl, q⟩⟩
theorem z_tup : tTup tl σ H Q = tl σ H fun xs H1 => xs.length ≤ sizeLine ∧ ∀ p, H1 p = none → Q (.ref p) (upd H1 p (.tup xs)) := rfl
theorem z_lst : tLst tl σ H Q = tl σ H fun xs H1 => xs.length ≤ sizeLine ∧ ∀ p, H1 p = none → Q (.ref p) (upd H1 p (.lst xs)) := rfl
theorem z_chain : tChain r r' ta tb tc σ H Q = ta σ H fun x H1 => tb σ H1 fun y H2 => r x y H2 fun z H3 => ∃ k, z = .bl k ∧ (if k = true then tc σ H3 fun w' H4 => r' y w' H4 Q else Q (.bl false) H3) := rfl
theorem z_bm {T : String} {f : V → List V → Hp → VK → Prop} {to : TE} : tBM K T f to tl σ H Q = to σ H fun x H1 => tyV K T x H1 ∧ tl σ H1 fun xs H2 => f x xs H2 Q := rfl
theorem z_bm0 {T : String} {f : V → List V → Hp → VK → Prop} {to : TE} : tBM0 K T f to σ H Q = to σ H fun x H1 => tyV K T x H1 ∧ f x [] H1 Q := rfl
theorem tyL {p : Addr} {xs : List V} (h : H p = some (.lst xs)) : tyV K "list" (.ref p) H := .inl ⟨rfl, _, .inl (.inl h)⟩
theorem z_gtup {m : Nat} {a : Addr} {gs : TGs} {Qg : St → Hp → Prop} : gTup K m gs (.ref a) σ H Qg = ∃ xs, SqT K H a xs ∧ xs.length = m ∧ gs xs σ H Qg := propext ⟨fun ⟨_, xs, e, h⟩ => by cases e; exact ⟨xs, h⟩, fun ⟨xs, h⟩ => ⟨a, xs, rfl, h⟩⟩
theorem z_gcons {gs : TGs} {r : List V} {Qg : St → Hp → Prop} : gCons g gs (v :: r) σ H Qg = g v σ H fun σ' H' => gs r σ' H' Qg := propext ⟨fun ⟨_, _, e, h⟩ => by cases e; exact h, fun h => ⟨v, r, rfl, h⟩⟩
theorem z_gnil {Qg : St → Hp → Prop} : gNil [] σ H Qg = Qg σ H := propext ⟨fun h => h.2, fun h => ⟨rfl, h⟩⟩
theorem z_yes : tYes σ H QT = QT true H := rfl
theorem z_wipe0 : wipe σ [] = σ := rfl
theorem z_wipeS {i : Nat} {is : List Nat} : wipe σ (i :: is) = (wipe σ is).set i none := rfl
theorem z_itup {R : It → Hp → Prop} : iTup K te σ H R = te σ H fun x H1 => ∃ a, x = .ref a ∧ (∃ xs, SqT K H1 a xs) ∧ R (Itt K a) H1 := rfl
theorem z_ilist {R : It → Hp → Prop} : iList K te σ H R = te σ H fun x H1 => ∃ a, x = .ref a ∧ (∃ xs, SqL K H1 a xs) ∧ R (Itl K a) H1 := rfl
theorem z_irng1 {R : It → Hp → Prop} : iRng1 tl σ H R = tl σ H fun vs H1 => ∃ j : Int, vs = [.int j] ∧ -(2 ^ 62) ≤ j ∧ j < 2 ^ 62 ∧ R (Itr 0 j.toNat) H1 := rfl
theorem z_irng2 {R : It → Hp → Prop} : iRng2 tl σ H R = tl σ H fun vs H1 => ∃ i j : Int, vs = [.int i, .int j] ∧ (-(2 ^ 62) ≤ i ∧ i < 2 ^ 62 ∧ -(2 ^ 62) ≤ j ∧ j < 2 ^ 62) ∧ R (Itr i (j - i).toNat) H1 := rfl
theorem z_lc {wi : TI} {vs : List Nat} : tLc wi g t te vs σ H Q = wi σ H fun J H1 => LcW J H1 g t te vs σ Q := rfl
theorem z_for {wi : TI} {tb : TS} : tFor wi g tb D σ H = wi σ H fun J H1 => ForW J H1 g tb D σ := rfl
theorem z_gsub {to ti : TE} {f : TSet} {Qg : St → Hp → Prop} : gSub to ti f v σ H Qg = to σ H fun o H1 => ti σ H1 fun i H2 => f o i v H2 fun H3 => Qg σ H3 := rfl
theorem ixL {p : Addr} {xs : List V} {i : Int} (h : SqL K H p xs) (e : atI xs i = some v) (q : Q v H) : rIxA K (.ref p) (.int i) H Q := .inl ⟨p, xs, i, v, rfl, rfl, h, e, q⟩
theorem ixT {p : Addr} {xs : List V} {i : Int} (h : SqT K H p xs) (e : atI xs i = some v) (q : Q v H) : rIxA K (.ref p) (.int i) H Q := .inr ⟨p, xs, i, v, rfl, rfl, h, e, q⟩
theorem setL {p : Addr} {xs : List V} {i : Int} {j : Nat} {Qh : Hp → Prop} (h : H p = some (.lst xs)) (e : ixN xs.length i = some j) (q : Qh (upd H p (.lst (xs.set j v)))) : rSetL (.ref p) (.int i) v H Qh := ⟨p, xs, i, j, rfl, rfl, h, e, q⟩
theorem lenL {p : Addr} {xs : List V} (h : SqL K H p xs) (q : Q (.int (xs.length : Int)) H) : rLenU K [.ref p] H Q := ⟨p, xs, rfl, .inl h, q⟩
theorem lenT {p : Addr} {xs : List V} (h : SqT K H p xs) (q : Q (.int (xs.length : Int)) H) : rLenU K [.ref p] H Q := ⟨p, xs, rfl, .inr h, q⟩
theorem z_par3 {i j l : Nat} : tPar3 i j l tl D σ H = tl σ H fun vs H1 => ∃ u v w, vs = [u, v, w] ∧ D.nx (((σ.set i (some u)).set j (some v)).set l (some w)) H1 := rfl
theorem z_trip {u v w : V} {p : V → V → V → Prop} : (∃ a b c, [u, v, w] = [a, b, c] ∧ p a b c) = p u v w := propext ⟨fun ⟨_, _, _, e, q⟩ => by cases e; exact q, fun q => ⟨_, _, _, rfl, q⟩⟩
theorem z_rg1 {f : Int → Int → Hp → Prop} : tRg1 te σ H f = te σ H fun x H1 => ∃ n, x = .int n ∧ f 0 n H1 := rfl
theorem z_rg2 {f : Int → Int → Hp → Prop} : tRg2 ta tb σ H f = ta σ H fun x H1 => tb σ H1 fun y H2 => ∃ i j, x = .int i ∧ y = .int j ∧ f i j H2 := rfl
theorem z_ii {i j : Int} {p : Int → Int → Prop} : (∃ a b, V.int i = V.int a ∧ V.int j = V.int b ∧ p a b) = p i j := propext ⟨fun ⟨_, _, e1, e2, q⟩ => by cases e1; cases e2; exact q, fun q => ⟨_, _, rfl, rfl, q⟩⟩
theorem z_i1 {i : Int} {p : Int → Prop} : (∃ a, V.int i = V.int a ∧ p a) = p i := propext ⟨fun ⟨_, e1, q⟩ => by cases e1; exact q, fun q => ⟨_, rfl, q⟩⟩
theorem z_lstrg {f : St → Hp → (Int → Int → Hp → Prop) → Prop} : tLstRg f σ H Q = f σ H fun a b H1 => RgOk a b ∧ ∀ q, H1 q = none → Q (.ref q) (upd H1 q (.lst (rgV a b))) := rfl
theorem z_disp {trs : List (TE × TE)} : tDisp trs σ H Q = ∀ p, H p = none → tPairs trs σ (upd H p (.dK [])) fun ps H2 => H2 p = some (.dK []) ∧ ∃ kvs : List (Key × V), ps = kvs.map (fun kv => (kV kv.1, kv.2)) ∧ kvs.length ≤ 15 ∧ Q (.ref p) (upd H2 p (.dK (mergeK [] kvs))) := rfl
theorem z_tp0 {f : List (V × V) → Hp → Prop} : tPairs [] σ H f = f [] H := rfl
theorem z_tpS {r : List (TE × TE)} {f : List (V × V) → Hp → Prop} : tPairs ((ta, tb) :: r) σ H f = ta σ H fun x H1 => tb σ H1 fun y H2 => tPairs r σ H2 fun ps H3 => f ((x, y) :: ps) H3 := rfl
theorem z_tru : tTru K ta σ H QT = ta σ H fun x H' => ∃ k, TruV K x H' k ∧ QT k H' := rfl
theorem z_din : tDIn ta tb σ H Q = ta σ H fun y H1 => tb σ H1 fun x H2 => ∃ a o, x = V.ref a ∧ DGet H2 a y o ∧ Q (.bl o.isSome) H2 := rfl
theorem z_dget : tDGet ta tb σ H Q = ta σ H fun x H1 => tb σ H1 fun y H2 => ∃ a v, x = V.ref a ∧ DGet H2 a y (some v) ∧ Q v H2 := rfl
theorem z_dput : sDPut ta tb te D σ H = te σ H fun v H1 => ta σ H1 fun x H2 => tb σ H2 fun y H3 => ∃ a H4, x = V.ref a ∧ DPut H3 a y v H4 ∧ D.nx σ H4 := rfl
theorem z_cont : tCont D σ H = D.ct σ H := rfl
theorem z_dnew : tDNewK σ H Q = ∀ p, H p = none → Q (.ref p) (upd H p (.dK [])) := rfl
theorem z_sl {f : V → Option Int → Option Int → Hp → VK → Prop} {ul uh : TO} : tSl f te ul uh σ H Q = te σ H fun x H1 => ul σ H1 fun l H2 => uh σ H2 fun u H3 => f x l u H3 Q := rfl
theorem z_part {f : Option Int → Hp → Prop} : tPart te σ H f = te σ H fun x H1 => ∃ i, x = .int i ∧ f (some i) H1 := rfl
theorem z_nopart {f : Option Int → Hp → Prop} : tNoPart σ H f = f none H := rfl
theorem z_strI {i : Int} : rStrI [.int i] H Q = (i.natAbs.log2 < 1920 ∧ Q (.str (toString i)) H) := propext ⟨fun ⟨_, e, q⟩ => by cases e; exact q, fun q => ⟨_, rfl, q⟩⟩
theorem z_isN : tIsN ta σ H Q = ta σ H fun x H1 => Q (.bl (decide (x = .non))) H1 := rfl
theorem z_notN : tNotN ta σ H Q = ta σ H fun x H1 => Q (.bl (!decide (x = .non))) H1 := rfl
theorem z_dn1 {i : Int} : decide (V.int i = V.non) = false := rfl
theorem z_dn2 {i : Addr} : decide (V.ref i = V.non) = false := rfl
theorem z_dn3 {i : Bool} : decide (V.bl i = V.non) = false := rfl
theorem z_dn4 {i : Str} : decide (V.str i = V.non) = false := rfl
theorem z_dn5 : decide (V.non = V.non) = true := rfl
theorem z_some {a : V} {p : V → Prop} : (∃ x, some (some a) = some (some x) ∧ p x) = p a := propext ⟨fun ⟨_, e, q⟩ => by cases e; exact q, fun q => ⟨_, rfl, q⟩⟩
end
/-! comprehensions: outs i is what the i-th item gives, if anything -/
def OutOf (D : Addr) (nx : Hp → Prop) : Option V → Hp → Prop
  | some y, H4 => ∃ acc, H4 D = some (.lst acc) ∧ acc.length < sizeLine ∧ nx (upd H4 D (.lst (acc ++ [y])))
  | none, H3 => nx H3
def outL (outs : Nat → Option V) (n : Nat) : List V := (List.range n).filterMap outs
theorem outL_succ (outs : Nat → Option V) (n : Nat) : outL outs (n + 1) = outL outs n ++ (outs n).toList := by
  unfold outL
  rw [List.range_succ, List.filterMap_append]
  cases h : outs n <;> simp [h]
theorem outL_len (outs : Nat → Option V) (n : Nat) : (outL outs n).length ≤ n := by
  unfold outL
  exact Nat.le_trans (List.length_filterMap_le _ _) (by simp)
theorem same_mutD {H H' : Hp} {p : Addr} {o : HO} (s : Same H H') (hn : H p = none) : Same H (upd H' p o) := fun b u h => by
  rw [upd_ne (ne_of_none h hn)]; exact s b u h
theorem out_ok {H1 : Hp} {D : Addr} (hD : H1 D = none) (outs : Nat → Option V) {i n : Nat} (hi : i < n) (hn : n < 2 ^ 22) {H' H2 : Hp} (h : Same H1 H' ∧ H' D = some (.lst (outL outs i))) (s : Same H' H2) :
    OutOf D (fun H' => Same H1 H' ∧ H' D = some (.lst (outL outs (i + 1)))) (outs i) H2 := by
  have h2 := s _ _ h.2
  have h3 : Same H1 H2 := h.1.trans s
  cases e : outs i with
  | none =>
    refine ⟨h3, ?_⟩
    rw [outL_succ, e]
    simpa using h2
  | some y =>
    refine ⟨_, h2, Nat.lt_of_lt_of_le (Nat.lt_of_le_of_lt (Nat.le_trans (outL_len outs i) (Nat.le_of_lt hi)) hn) (by decide), same_mutD h3 hD, ?_⟩
    rw [upd_same, outL_succ, e]
    rfl
theorem comp_R {lo : Int} {n : Nat} {g : TG} {tt : TT} {te : TE} {vs : List Nat} {σ : St} {H1 : Hp} {Q : VK} (outs : Nat → Option V) (hn : n < 2 ^ 22)
    (turn : ∀ i H', i < n → Same H1 H' → ∀ Qo : Option V → Hp → Prop, (∀ H2, Same H' H2 → Qo (outs i) H2) → g (.int (lo + i)) (wipe σ vs) H' fun σ2 H2 => wipe σ2 vs = wipe σ vs ∧ tt σ2 H2 fun b H3 => if b = true then te σ2 H3 fun y H4 => Qo (some y) H4 else Qo none H3)
    (fin : ∀ D H', Same H1 H' → H' D = some (.lst (outL outs n)) → Q (.ref D) H') : LcW (Itr lo n) H1 g tt te vs σ Q := fun D hD =>
  lc_range (lo := lo) (n := n) (fun i H' => Same H1 H' ∧ H' D = some (.lst (outL outs i))) ⟨fun b u h => by rw [upd_ne (ne_of_none h hD)]; exact h, upd_same⟩
    (fun i H' hi p => turn i H' hi p.1 (OutOf D fun H' => Same H1 H' ∧ H' D = some (.lst (outL outs (i + 1)))) fun H2 s => out_ok hD outs hi hn p s) (fun H' p => fin D H' p.1 p.2)
theorem comp_T {K : PySem.W.Frag} {a : Addr} {xs : List V} {g : TG} {tt : TT} {te : TE} {vs : List Nat} {σ : St} {H1 : Hp} {Q : VK} (hT : SqT K H1 a xs) (outs : Nat → Option V) (hn : xs.length < 2 ^ 22)
    (turn : ∀ i x H', xs[i]? = some x → Same H1 H' → ∀ Qo : Option V → Hp → Prop, (∀ H2, Same H' H2 → Qo (outs i) H2) → g x (wipe σ vs) H' fun σ2 H2 => wipe σ2 vs = wipe σ vs ∧ tt σ2 H2 fun b H3 => if b = true then te σ2 H3 fun y H4 => Qo (some y) H4 else Qo none H3)
    (fin : ∀ D H', Same H1 H' → H' D = some (.lst (outL outs xs.length)) → Q (.ref D) H') : LcW (Itt K a) H1 g tt te vs σ Q := fun D hD => by
  have hsq : ∀ H', Same H1 H' → SqT K H' a xs := fun H' s => by
    rcases hT with (h | ⟨o, h⟩) | h
    · exact .inl (.inl (s _ _ h))
    · exact .inl (.inr ⟨o, s _ _ h⟩)
    · exact .inr h
  exact lc_tup (K := K) (a := a) (xs := xs) (fun i H' => Same H1 H' ∧ H' D = some (.lst (outL outs i))) ⟨fun b u h => by rw [upd_ne (ne_of_none h hD)]; exact h, upd_same⟩ (fun i H' _ p => hsq H' p.1)
    (fun i x H' hx p => turn i x H' hx p.1 (OutOf D fun H' => Same H1 H' ∧ H' D = some (.lst (outL outs (i + 1)))) fun H2 s => out_ok hD outs (by
      have := List.getElem?_eq_some_iff.mp hx
      exact this.1) hn p s) (fun H' p => fin D H' p.1 p.2)
theorem comp_L {K : PySem.W.Frag} {a : Addr} {xs : List V} {g : TG} {tt : TT} {te : TE} {vs : List Nat} {σ : St} {H1 : Hp} {Q : VK} (hT : SqL K H1 a xs) (outs : Nat → Option V) (hn : xs.length < 2 ^ 22)
    (turn : ∀ i x H', xs[i]? = some x → Same H1 H' → ∀ Qo : Option V → Hp → Prop, (∀ H2, Same H' H2 → Qo (outs i) H2) → g x (wipe σ vs) H' fun σ2 H2 => wipe σ2 vs = wipe σ vs ∧ tt σ2 H2 fun b H3 => if b = true then te σ2 H3 fun y H4 => Qo (some y) H4 else Qo none H3)
    (fin : ∀ D H', Same H1 H' → H' D = some (.lst (outL outs xs.length)) → Q (.ref D) H') : LcW (Itl K a) H1 g tt te vs σ Q := fun D hD =>
  lc_list (K := K) (a := a) (xs := xs) (fun i H' => Same H1 H' ∧ H' D = some (.lst (outL outs i))) ⟨fun b u h => by rw [upd_ne (ne_of_none h hD)]; exact h, upd_same⟩ (fun i H' _ p => p.1.seq hT)
    (fun i x H' hx p => turn i x H' hx p.1 (OutOf D fun H' => Same H1 H' ∧ H' D = some (.lst (outL outs (i + 1)))) fun H2 s => out_ok hD outs (by
      have := List.getElem?_eq_some_iff.mp hx
      exact this.1) hn p s) (fun H' p => fin D H' p.1 p.2)
theorem for_T {K : PySem.W.Frag} {a : Addr} {xs : List V} {g : TG} {tb : TS} {D : Ends} {σ : St} {H : Hp} (Pv : Nat → St → Hp → Prop) (h0 : Pv 0 σ H) (hl : ∀ i σ H, i ≤ xs.length → Pv i σ H → SqT K H a xs)
    (hs : ∀ i x σ H, xs[i]? = some x → Pv i σ H → ∀ N : St → Hp → Prop, (∀ σ' H', Pv (i + 1) σ' H' → N σ' H') → g x σ H fun σ2 H2 => tb { D with nx := N, ct := N, bk := D.nx } σ2 H2) (hd : ∀ σ H, Pv xs.length σ H → D.nx σ H) : ForW (Itt K a) H g tb D σ :=
  for_tup (xs := xs) Pv h0 hl (fun i x σ H hx p => hs i x σ H hx p _ fun _ _ h => h) hd
theorem for_L {K : PySem.W.Frag} {a : Addr} {xs : List V} {g : TG} {tb : TS} {D : Ends} {σ : St} {H : Hp} (Pv : Nat → St → Hp → Prop) (h0 : Pv 0 σ H) (hl : ∀ i σ H, i ≤ xs.length → Pv i σ H → SqL K H a xs)
    (hs : ∀ i x σ H, xs[i]? = some x → Pv i σ H → ∀ N : St → Hp → Prop, (∀ σ' H', Pv (i + 1) σ' H' → N σ' H') → g x σ H fun σ2 H2 => tb { D with nx := N, ct := N, bk := D.nx } σ2 H2) (hd : ∀ σ H, Pv xs.length σ H → D.nx σ H) : ForW (Itl K a) H g tb D σ :=
  for_list (xs := xs) Pv h0 hl (fun i x σ H hx p => hs i x σ H hx p _ fun _ _ h => h) hd
theorem for_R {lo : Int} {n : Nat} {g : TG} {tb : TS} {D : Ends} {σ : St} {H : Hp} (Pv : Nat → St → Hp → Prop) (h0 : Pv 0 σ H)
    (hs : ∀ i σ H, i < n → Pv i σ H → ∀ N : St → Hp → Prop, (∀ σ' H', Pv (i + 1) σ' H' → N σ' H') → g (.int (lo + i)) σ H fun σ2 H2 => tb { D with nx := N, ct := N, bk := D.nx } σ2 H2) (hd : ∀ σ H, Pv n σ H → D.nx σ H) : ForW (Itr lo n) H g tb D σ :=
  for_range (lo := lo) (n := n) Pv h0 (fun i σ H hx p => hs i σ H hx p _ fun _ _ h => h) hd
/-- while: the invariant W by its measure; N is what a turn is to reach -/
theorem while_of {c : TT} {tb : TS} {D : Ends} {σ : St} {H : Hp} (W : Nat → St → Hp → Prop) (m0 : Nat) (h0 : W m0 σ H)
    (hs : ∀ m σ H, W m σ H → ∀ N : St → Hp → Prop, (∀ m' σ' H', m' < m → W m' σ' H' → N σ' H') → (∀ σ' H', N σ' H' → ∃ m', m' < m ∧ W m' σ' H') →
      c σ H fun b H1 => if b = true then ∃ N : St → Hp → Prop, (∀ σ' H', N σ' H' → ∃ m', m' < m ∧ W m' σ' H') ∧ tb { D with nx := N, ct := N, bk := D.nx } σ H1 else D.nx σ H1) : tWhile c tb D σ H :=
  ⟨W, ⟨m0, h0⟩, fun m σ H w => hs m σ H w _ (fun m' _ _ a b => ⟨m', a, b⟩) (fun _ _ h => h)⟩
/-- a comprehension over zip of two tuples of one length -/
theorem comp_ZT {K : PySem.W.Frag} {a b : Addr} {xs ys : List V} {g : TG} {tt : TT} {te : TE} {vs : List Nat} {σ : St} {H1 : Hp} {Q : VK} (hl : xs.length = ys.length) (hA : SqT K H1 a xs) (hB : SqT K H1 b ys) (outs : Nat → Option V) (hn : xs.length < 2 ^ 22)
    (turn : ∀ i x y T H', xs[i]? = some x → ys[i]? = some y → Same H1 H' → H' T = none → ∀ Qo : Option V → Hp → Prop, (∀ H2, Same H' H2 → Qo (outs i) H2) → g (.ref T) (wipe σ vs) (upd H' T (.tup [x, y])) fun σ2 H2 => wipe σ2 vs = wipe σ vs ∧ tt σ2 H2 fun b H3 => if b = true then te σ2 H3 fun y H4 => Qo (some y) H4 else Qo none H3)
    (fin : ∀ D H', Same H1 H' → H' D = some (.lst (outL outs xs.length)) → Q (.ref D) H') : LcW (RZ.ItzT K a b) H1 g tt te vs σ Q := fun D hD => by
  have hsq : ∀ {a xs H'}, SqT K H1 a xs → Same H1 H' → SqT K H' a xs := fun hT s => by
    rcases hT with (h | ⟨o, h⟩) | h
    · exact .inl (.inl (s _ _ h))
    · exact .inl (.inr ⟨o, s _ _ h⟩)
    · exact .inr h
  refine ⟨fun i m H => m = xs.length - i ∧ i ≤ xs.length ∧ Same H1 H ∧ H D = some (.lst (outL outs i)), ⟨xs.length, by simp, Nat.zero_le _, fun b u h => by rw [upd_ne (ne_of_none h hD)]; exact h, upd_same⟩, ?_⟩
  rintro i m H ⟨rfl, hi, s1, hL⟩
  by_cases hlt : i < xs.length
  · have jlt : i < ys.length := by omega
    refine .inr ⟨⟨xs, ys, _, _, hsq hA s1, hsq hB s1, List.getElem?_eq_getElem hlt, List.getElem?_eq_getElem jlt⟩, fun H => Same H1 H ∧ H D = some (.lst (outL outs (i + 1))), fun H' p' => ⟨xs.length - (i + 1), by omega, rfl, hlt, p'⟩, fun v H' y => ?_⟩
    obtain ⟨T, u, v, rfl, hT, rfl, f1, f2⟩ := y
    exact turn i u v T H (f1 xs (hsq hA s1)) (f2 ys (hsq hB s1)) s1 hT (OutOf D fun H' => Same H1 H' ∧ H' D = some (.lst (outL outs (i + 1)))) fun H2 s => out_ok hD outs hlt hn ⟨s1, hL⟩ s
  · obtain rfl : i = xs.length := by omega
    exact .inl ⟨⟨xs, ys, hsq hA s1, hsq hB s1, Or.inl (Nat.le_refl _)⟩, fin D H s1 hL⟩
def Lc2W (J : It) (H1 : Hp) (g : TG) (tt : TT) (wi1 : TI) (g1 : TG) (tt1 : TT) (te : TE) (vs vs1 : List Nat) (σ : St) (Q : VK) : Prop := tLc2 (fun _ _ R => R J H1) g tt wi1 g1 tt1 te vs vs1 σ H1 Q
theorem z_lc2 {wi wi1 : TI} {g g1 : TG} {tt tt1 : TT} {te : TE} {vs vs1 : List Nat} {σ : St} {H : Hp} {Q : VK} : tLc2 wi g tt wi1 g1 tt1 te vs vs1 σ H Q = wi σ H fun J H1 => Lc2W J H1 g tt wi1 g1 tt1 te vs vs1 σ Q := rfl
/-- [f x y for x in xs for y in ys], both lists, f without a trace on the heap -/
theorem comp2_LL {K : PySem.W.Frag} {a b : Addr} {xs ys : List V} {g g1 : TG} {wi1 : TI} {te : TE} {vs vs1 : List Nat} {σ : St} {H1 : Hp} {Q : VK} (f : V → V → V) (σ1 : V → St) (σ2 : V → V → St) (hA : SqL K H1 a xs) (hB : SqL K H1 b ys) (hn : xs.length * ys.length < 2 ^ 22)
    (hg : ∀ x H' (P : St → Hp → Prop), P (σ1 x) H' → g x (wipe σ vs) H' P) (hw : ∀ x, wipe (σ1 x) vs = wipe σ vs)
    (hi : ∀ x H' R, Same H1 H' → R (Itl K b) H' → wi1 (σ1 x) H' R)
    (hg1 : ∀ x y H' (P : St → Hp → Prop), P (σ2 x y) H' → g1 y (wipe (σ1 x) vs1) H' P) (hw1 : ∀ x y, wipe (σ2 x y) vs1 = wipe (σ1 x) vs1)
    (he : ∀ x y H' Qe, x ∈ xs → y ∈ ys → Same H1 H' → Qe (f x y) H' → te (σ2 x y) H' Qe)
    (fin : ∀ D H', Same H1 H' → H' D = some (.lst (xs.flatMap fun x => ys.map (f x))) → Q (.ref D) H') :
    Lc2W (Itl K a) H1 g tYes wi1 g1 tYes te vs vs1 σ Q := fun D hD => by
  have full : ∀ i j : Nat, i < xs.length → j ≤ ys.length → (((xs.take i).flatMap fun x => ys.map (f x)) ++ ((ys.take j).map (f (xs[i]?.getD .non)))).length ≤ xs.length * ys.length := fun i j hi hj => by
    have e : ∀ l : List V, (l.flatMap fun x => ys.map (f x)).length = l.length * ys.length := fun l => by
      induction l with
      | nil => simp
      | cons x t ih => rw [List.flatMap_cons, List.length_append, ih, List.length_map, List.length_cons, Nat.add_mul, Nat.one_mul, Nat.add_comm]
    rw [List.length_append, e, List.length_map, List.length_take, List.length_take, Nat.min_eq_left (by omega), Nat.min_eq_left hj]
    have : (i + 1) * ys.length ≤ xs.length * ys.length := Nat.mul_le_mul_right _ hi
    rw [Nat.add_mul, Nat.one_mul] at this
    omega
  refine ⟨fun i m H => m = xs.length - i ∧ i ≤ xs.length ∧ Same H1 H ∧ H D = some (.lst ((xs.take i).flatMap fun x => ys.map (f x))), ⟨xs.length, by simp, Nat.zero_le _, fun b u h => by rw [upd_ne (ne_of_none h hD)]; exact h, by rw [upd_same]; simp⟩, ?_⟩
  rintro i m H ⟨rfl, hi', s1, hL⟩
  by_cases hlt : i < xs.length
  · have hx := List.getElem?_eq_getElem hlt
    refine .inr ⟨⟨xs, _, s1.seq hA, hx⟩, fun H => Same H1 H ∧ H D = some (.lst ((xs.take (i + 1)).flatMap fun x => ys.map (f x))), fun H' p' => ⟨xs.length - (i + 1), by omega, rfl, hlt, p'⟩, fun v H' y => ?_⟩
    obtain ⟨rfl, f1⟩ := y
    have hv := f1 xs (s1.seq hA)
    have ev : v = xs[i] := by rw [hx] at hv; exact (Option.some.inj hv).symm
    refine hg _ _ _ ⟨hw _, ?_⟩
    show wi1 _ _ _
    refine hi _ _ _ s1 ?_
    refine ⟨fun j k H => k = ys.length - j ∧ j ≤ ys.length ∧ Same H1 H ∧ H D = some (.lst (((xs.take i).flatMap fun x => ys.map (f x)) ++ ((ys.take j).map (f v)))), ⟨ys.length, by simp, Nat.zero_le _, s1, by simpa using hL⟩, ?_⟩
    rintro j k H ⟨rfl, hj, s2, hM⟩
    by_cases hjt : j < ys.length
    · have hy : ys[j]? = some ys[j] := List.getElem?_eq_getElem hjt
      refine .inr ⟨⟨ys, _, s2.seq hB, hy⟩, fun H => Same H1 H ∧ H D = some (.lst (((xs.take i).flatMap fun x => ys.map (f x)) ++ ((ys.take (j + 1)).map (f v)))), fun H' p' => ⟨ys.length - (j + 1), by omega, rfl, hjt, p'⟩, fun u H' y => ?_⟩
      obtain ⟨rfl, f2⟩ := y
      have hu := f2 ys (s2.seq hB)
      refine hg1 _ _ _ _ ⟨hw1 _ _, ?_⟩
      show te _ _ _
      refine he _ _ _ _ (List.mem_of_getElem? hv) (List.mem_of_getElem? hu) s2 ?_
      have fl := full i j hlt hj
      rw [hv] at fl
      refine ⟨_, hM, Nat.lt_of_le_of_lt fl (Nat.lt_of_lt_of_le hn (by decide)), same_mutD s2 hD, ?_⟩
      rw [upd_same, List.take_succ, hu, List.append_assoc]
      simp
    · have e : j = ys.length := by omega
      subst e
      refine .inl ⟨⟨ys, s2.seq hB, Nat.le_refl _⟩, s2, ?_⟩
      rw [hM, List.take_length, List.take_succ, hv]
      simp
  · obtain rfl : i = xs.length := by omega
    exact .inl ⟨⟨xs, s1.seq hA, Nat.le_refl _⟩, fin D H s1 (by rw [hL, List.take_length])⟩
theorem z_dget2 {σ : St} {H : Hp} {Q : VK} {ta tb te : TE} : tDGet2 ta tb te σ H Q = ta σ H fun x H1 => ∃ a, x = .ref a ∧ IsD H1 a ∧ tb σ H1 fun y H2 => te σ H2 fun z H3 => ∃ o, DGet H3 a y o ∧ Q (o.getD z) H3 := rfl
theorem z_izip {K : PySem.W.Frag} {σ : St} {H : Hp} {tl : TA} {R : It → Hp → Prop} : RZ.iZipA K tl σ H R = tl σ H fun vs H1 => ∃ a b xs ys, vs = [.ref a, .ref b] ∧ ((SqL K H1 a xs ∧ SqL K H1 b ys ∧ R (Itz K a b) H1) ∨ (SqT K H1 a xs ∧ SqT K H1 b ys ∧ R (RZ.ItzT K a b) H1)) := rfl
open Sem (wp)
/-! enumerate over a tuple -/
def itO (a : Addr) : Obj := { cls := .type "tuple_iterator", data := .fields #[.ref a, .int 0 0] }
def enO (it : Addr) : Obj := { cls := .type "enumerate", data := .fields #[.none, .bool false, .ref it, rawInt 0, .none, .none] }
theorem en_new (a : Addr) (its : Array Value) : Meets (Builtin.«enumerate.__new__» ⟨[.type "enumerate", .ref a], []⟩) (fun _ R s0 => s0.heap.IsTuple a its ∧ R (.ok (.ret (.ref (s0.heap.push (itO a)).objs.size))) { s0 with heap := (s0.heap.push (itO a)).push (enO s0.heap.objs.size) }) :=
  .of_wp fun prg wd AA RR s0 hs => by
    obtain ⟨hp, gg, dd, tk, os⟩ := s0
    obtain ⟨hT, hs⟩ := hs
    have hsub := PySem.sub_enumerate
    have go : ∀ {A' : Around} {E' : Value → Shared → Prop} {Q' : Value → Shared → Prop}, Q' (.ref hp.objs.size) ⟨hp.push (itO a), gg, dd, tk, os⟩ → wpAny (model prg wd) A' (pyIter (.ref a)) Q' E' ⟨hp, gg, dd, tk, os⟩ := fun q => (begins_tuple a its).iter prg wd _ _ ⟨hp, gg, dd, tk, os⟩ _ hT q
    wp_walk using go
    refine wpAny_stack_any fun stk => wpAny_pure ?_
    split
    · rename_i cc _ _ _ _ _
      cases (cc == Value.type "enumerate") <;> (wp_walk using go; exact ⟨_, rfl, hs⟩)
    · wp_walk using go
      exact ⟨_, rfl, hs⟩
theorem en_call {prg : Program} {wd : World} {AA : Around} {EE : Value → Shared → Prop} {s0 : Shared} {a : Addr} {its : Array Value} {Q : Value → Shared → Prop} (hT : s0.heap.IsTuple a its)
    (h : ∀ h1, IsEnum h1 (s0.heap.objs.size + 1) s0.heap.objs.size 0 .none → h1.IsTupleIter s0.heap.objs.size a 0 → (∀ b ob, s0.heap.get? b = some ob → h1.get? b = some ob) → Q (.ref (s0.heap.objs.size + 1)) { s0 with heap := h1 }) :
    wpAny (model prg wd) AA (call (.type "enumerate") [.ref a]) Q EE s0 := by
  refine callType_new F.called_enumerate (by decide) (F.typeCall_enumerate_1 _) (F.newCall_enumerate_1 _) (fun ob => F.args_object_init_2 ob _) F.entry_enumerate_new (en_new a its) ⟨hT, ?_⟩
  have z1 : (s0.heap.push (itO a)).objs.size = s0.heap.objs.size + 1 := Heap.size_push ..
  have z2 : IsEnum ((s0.heap.push (itO a)).push (enO s0.heap.objs.size)) (s0.heap.objs.size + 1) s0.heap.objs.size 0 .none := by
    have z3 := Heap.get?_push_size (s0.heap.push (itO a)) (o := enO s0.heap.objs.size) rfl
    rw [z1] at z3
    exact z3
  show _ ∧ _
  rw [z1]
  exact ⟨⟨_, z2, rfl⟩, h _ z2 ⟨_, Heap.get?_push_of_some _ (Heap.get?_push_size _ rfl), rfl, rfl⟩ fun b ob y => Heap.get?_push_of_some _ (Heap.get?_push_of_some _ y)⟩
/-- the tuple at a, each item in a new pair with its index -/
def IteT (K : PySem.W.Frag) (a : Addr) : It :=
  ⟨fun i H => ∃ (xs : List V) (x : V), SqT K H a xs ∧ xs[i]? = some x,
   fun i H v H' => ∃ T x, v = .ref T ∧ H T = none ∧ H' = upd H T (.tup [.int (i : Nat), x]) ∧ ∀ xs, SqT K H a xs → xs[i]? = some x,
   fun i H => ∃ xs : List V, SqT K H a xs ∧ xs.length = i⟩
theorem en_apart {h : Heap} {e it a : Addr} {n : Int} {old : Value} {its : Array Value} {i : Nat} (he : IsEnum h e it n old) (hi : h.IsTupleIter it a i) (ha : h.IsTuple a its) : a ≠ it ∧ e ∉ [it, a] ∧ e ≠ it := by
  obtain ⟨o1, g1, c1, _⟩ := hi
  obtain ⟨o2, g2, c2, _⟩ := ha
  have n1 : a ≠ it := fun q => by
    rw [q, g1] at g2
    cases g2
    rw [c1] at c2
    exact absurd c2 (by decide)
  have n2 : e ≠ it := fun q => by
    rw [q] at he
    have := g1.symm.trans he
    cases this
    exact (show (Value.type "enumerate") ≠ Value.type "tuple_iterator" by decide) c1
  have n3 : e ≠ a := fun q => by
    rw [q] at he
    have := g2.symm.trans he
    cases this
    exact (show (Value.type "enumerate") ≠ Value.type "tuple" by decide) c2
  exact ⟨n1, by simp [n2, n3], n2⟩
theorem turn_enT {prg : Program} {wd : World} {K : PySem.W.Frag} {elts : List Expr} {kk : Nat} {tpos : Pos} (a e it : Addr) : Turn prg wd K (.Tuple elts kk tpos) (IteT K a) [e, it] e (fun i h => (∃ old, IsEnum h e it ((i : Nat) : Int) old) ∧ h.IsTupleIter it a i) where
  mem := List.mem_cons_self
  obj := fun i h st b hb => by
    obtain ⟨⟨old, he⟩, o, ho, _, hd⟩ := st
    rcases List.mem_cons.mp hb with z | z
    · subst z
      exact ⟨_, he, fun v q => nomatch q⟩
    · obtain rfl := List.mem_singleton.mp z
      exact ⟨o, ho, fun v q => by rw [hd] at q; cases q⟩
  keep := fun i h h' st k => by
    obtain ⟨⟨old, he⟩, hi⟩ := st
    exact ⟨⟨old, k e List.mem_cons_self _ he⟩, hi.at fun o q => k it (List.mem_cons_of_mem _ List.mem_cons_self) o q⟩
  item := by
    intro X hP hw hK hc i pins s0 σ H EE I hf st hg
    subst hP hw hK
    obtain ⟨⟨old, he⟩, hi⟩ := st
    obtain ⟨xs, x, hq, hx⟩ := hg
    obtain ⟨its, rv, p, _⟩ := I.tuple hq
    have p : s0.heap.IsTuple a its.toArray := p
    obtain ⟨u, hu, relu⟩ := rv.get hx
    obtain ⟨n1, n2, n3⟩ := en_apart he hi p
    have hlt : i < its.toArray.size := by
      have := (List.getElem?_eq_some_iff.mp hu).1
      simpa using this
    have szE : e < s0.heap.objs.size := Heap.lt_size he
    have szI : it < s0.heap.objs.size := by
      obtain ⟨_, q, _⟩ := hi
      exact Heap.lt_size q
    refine wpAny_pyNext_enum_itemD (Draws.tuple (A := X.A.in1) (I.ok.hd hc) it a n1 its.toArray) he ⟨hi, p⟩ hlt n3 n2 fun y h1 tk hy ho hs hT _ hk => ?_
    have ey : y = u := by
      have : its[i]? = some y := by simpa using hy
      rw [hu] at this
      exact (Option.some.inj this).symm
    subst ey
    refine ⟨_, rfl, wpAny_letOwnedTupleGo_enum (s := { s0 with heap := h1, toks := tk + 1 }) ho fun h2 he2 sb => ?_⟩
    have hT2 := (sb.2 _ (Nat.ne_of_gt szE)).trans hT
    have fresh : H s0.heap.objs.size = none := I.hok.fresh (Nat.le_refl _)
    have neu : ObjOk X.prog X.w (upd H s0.heap.objs.size (.tup [.int (i : Nat), x])) h2 s0.heap.objs.size (.tup [.int (i : Nat), x]) := ⟨by show 2 ≤ sizeLine; decide, [.int i tk, y], .cons ⟨_, rfl⟩ (.cons relu .nil), ⟨_, hT2, rfl, _, rfl⟩⟩
    have kept : ∀ b ob, b ∉ [e, it] → s0.heap.get? b = some ob → h2.get? b = some ob := fun b ob hb q => by
      have hb' : b ≠ e ∧ b ≠ it := by simpa using hb
      exact (sb.2 b hb'.1).trans (hk b ob hb'.1 hb'.2 q)
    have J := I.turnedNew (t' := tk + 1) kept hf (Nat.le_refl _) neu
    refine ⟨.ref s0.heap.objs.size, _, J, rfl, ⟨_, x, rfl, fresh, rfl, fun ys hy => by rw [I.tuple_inj hy hq]; exact hx⟩, ⟨⟨y, ?_⟩, hs.1.at fun o q => (sb.2 it (Ne.symm n3)).trans q⟩, fun b hb => ?_⟩
    · rw [show ((i + 1 : Nat) : Int) = (i : Int) + 1 by omega]; exact he2
    · have hlt2 : b < s0.heap.objs.size := by
        rcases List.mem_cons.mp hb with z | z
        · rw [z]; exact szE
        · rw [List.mem_singleton.mp z]; exact szI
      rw [upd_ne (Nat.ne_of_lt hlt2)]
      exact (hf b hb).1
  done := by
    intro X hP hw hK hc i pins s0 σ H EE I hf st hg
    subst hP hw hK
    obtain ⟨⟨old, he⟩, hi⟩ := st
    obtain ⟨xs, hq, hx⟩ := hg
    obtain ⟨its, rv, p, _⟩ := I.tuple hq
    have p : s0.heap.IsTuple a its.toArray := p
    obtain ⟨n1, n2, n3⟩ := en_apart he hi p
    obtain ⟨f0, f1, f2, f3, f4, f5⟩ := hf it (List.mem_cons_of_mem _ List.mem_cons_self)
    have e1 : i = its.toArray.size := by
      have := rv.length
      simp
      omega
    subst e1
    exact wpAny_pyNext_enum_endD (Draws.tuple (A := X.A.in1) (I.ok.hd hc) it a n1 its.toArray) he ⟨hi, p⟩ fun h1 eb => ⟨rfl, I.turned (t' := s0.toks) (fun b ob hb q => eb b ob hb q) f0 f1 f3 f4 f5⟩
  self := fun AA i s0 Q EE st h => by
    obtain ⟨⟨_, he⟩, _⟩ := st
    exact wpAny_pyIter_enum he h
def iEnT (K : PySem.W.Frag) (ta : TA) : TI := fun σ H R => ta σ H fun vs H1 => ∃ a xs, vs = [.ref a] ∧ SqT K H1 a xs ∧ R (IteT K a) H1
theorem pi_enT {X : Cx} {e : Expr} {ta : TA} {p pos tpos : Pos} {elts : List Expr} {kk : Nat} (hg : Gl X "enumerate") (hm : X.mg "enumerate" = none) (ha : PA X [e] ta) (hs : starEach [e] X.env = [(false, eval e X.env)] := by rfl) : PI X (.Tuple elts kk tpos) (.Call (.Name "enumerate" p) [e] [] pos) (iEnT X.K ta) := by
  refine ⟨fun pins s0 σ H R I h => Call_ (ld_blt I hg hm boot_enumerate (PyProof.Rows.callWith_type1 (thn (ha.run pos pins s0 σ H _ I h) fun us s1 ⟨vs, H1, I1, r1, q1⟩ => ?_) hs rfl))⟩
  obtain ⟨a, xs, rfl, hq, q⟩ := q1
  cases r1 with
  | cons r rr =>
    cases rr
    cases r
    obtain ⟨its, rv, p', _⟩ := I1.tuple hq
    refine en_call (show s1.heap.IsTuple a its.toArray from p') fun h1 he hi hk => wpAny_pyIter_enum he ?_
    have J : Inv X pins σ H1 { s1 with heap := h1 } := I1.kept (t' := s1.toks) hk
    refine ⟨s1.heap.objs.size + 1, [s1.heap.objs.size + 1, s1.heap.objs.size], _, _, H1, rfl, J, turn_enT a (s1.heap.objs.size + 1) s1.heap.objs.size, ⟨⟨.none, he⟩, hi⟩, fun b hb => ?_, q⟩
    have above : s1.heap.objs.size ≤ b := (List.mem_cons.mp hb).elim (fun q => by rw [q]; exact Nat.le_succ _) (fun q => by rw [List.mem_singleton.mp q]; exact Nat.le_refl _)
    exact I1.fpOk above (I1.hok.fresh above)
/-- for i, x in enumerate(a tuple) -/
theorem for_enT {K : PySem.W.Frag} {a : Addr} {xs : List V} {g : TG} {tb : TS} {D : Ends} {σ : L2.St} {H : Hp} (Pv : Nat → L2.St → Hp → Prop) (h0 : Pv 0 σ H) (hl : ∀ i σ H, Pv i σ H → SqT K H a xs)
    (hs : ∀ (i : Nat) (x : V) (T : Addr) (σ : L2.St) (H : Hp), xs[i]? = some x → Pv i σ H → H T = none → ∀ N : L2.St → Hp → Prop, (∀ σ' H', Pv (i + 1) σ' H' → N σ' H') → g (.ref T) σ (upd H T (.tup [.int (i : Nat), x])) fun σ2 H2 => tb { D with nx := N, ct := N, bk := D.nx } σ2 H2) (hd : ∀ σ H, Pv xs.length σ H → D.nx σ H) : ForW (IteT K a) H g tb D σ := by
  refine ⟨fun k m σ H => m + k = xs.length ∧ Pv k σ H, ⟨xs.length, by omega, h0⟩, ?_⟩
  rintro i m σ H ⟨em, p⟩
  have q := hl i σ H p
  by_cases hlt : i < xs.length
  · refine .inr ⟨⟨xs, _, q, List.getElem?_eq_getElem hlt⟩, Pv (i + 1), fun σ' H' p' => ⟨xs.length - (i + 1), by omega, by omega, p'⟩, fun v H' y => ?_⟩
    obtain ⟨T, x', rfl, hT, rfl, f1⟩ := y
    exact hs i x' T σ H (f1 xs q) p hT _ fun _ _ h => h
  · obtain rfl : i = xs.length := by omega
    exact .inl ⟨⟨xs, q, rfl⟩, hd σ H p⟩
theorem z_ient {K : PySem.W.Frag} {σ : L2.St} {H : Hp} {tl : TA} {R : It → Hp → Prop} : iEnT K tl σ H R = tl σ H fun vs H1 => ∃ a xs, vs = [.ref a] ∧ SqT K H1 a xs ∧ R (IteT K a) H1 := rfl
/-! a chain of three comparisons -/
def tChain3 (r r' r'' : R2) (ta tb tc td : TE) : TE := fun σ H Q => ta σ H fun x H1 => tb σ H1 fun y H2 => r x y H2 fun z H3 => ∃ k, z = .bl k ∧ (if k = true then tc σ H3 fun u H4 => r' y u H4 fun z2 H5 => ∃ k2, z2 = .bl k2 ∧ (if k2 = true then td σ H5 fun v H6 => r'' u v H6 Q else Q (.bl false) H5) else Q (.bl false) H3)
theorem pt_chain3 {X : Cx} {pos : Pos} {a b c d : Expr} {ta tb tc td : TE} {op op' op'' : CmpOp} {r r' r'' : R2} (ho : OpR X (compareOp op) r) (ho' : OpR X (compareOp op') r') (ho'' : OpR X (compareOp op'') r'') (ha : PE X a ta) (hb : PE X b tb) (hc : PE X c tc) (hd : PE X d td)
    (hm : lastMarks [op, op', op''] [b, c, d] = false := by with_unfolding_all rfl) : PT X (.Compare a [op, op', op''] [b, c, d] pos) (tTest (tChain3 r r' r'' ta tb tc td)) := by
  refine ⟨fun pins s0 σ H Q I h => isTrue_chain (thn (ha.run pins s0 σ H _ I h) fun v s1 ⟨x, H1, I1, r1, q1⟩ => test_link (thn (hb.run pins s1 σ H1 _ I1 q1) fun u s2 ⟨y, H2, I2, r2, q2⟩ => thn (ho pins s2 σ H2 x y v u _ I2 r1 r2 q2) fun dd s3 ⟨z, H3, I3, r3, k, e, q3⟩ => ?_)) hm⟩
  subst e
  cases r3
  refine wpAny_truthy_bool ?_
  cases k with
  | false =>
    obtain ⟨k', e', q'⟩ := q3
    cases e'
    exact ite_ff ⟨H3, I3, q'⟩
  | true =>
    refine ite_tt (test_link (thn (hc.run pins s3 σ H3 _ I3 q3) fun w' s4 ⟨z', H4, I4, r4, q4⟩ => thn (ho' pins s4 σ H4 y z' u w' _ I4 r2 r4 q4) fun d' s5 ⟨z2, H5, I5, r5, k2, e2, q5⟩ => ?_))
    subst e2
    cases r5
    refine wpAny_truthy_bool ?_
    cases k2 with
    | false =>
      obtain ⟨k', e', q'⟩ := q5
      cases e'
      exact ite_ff ⟨H5, I5, q'⟩
    | true =>
      refine ite_tt (test_last (thn (hd.run pins s5 σ H5 _ I5 q5) fun w2 s6 ⟨z3, H6, I6, r6, q6⟩ => thn (ho'' pins s6 σ H6 z' z3 w' w2 _ I6 r4 r6 q6) fun d2 s7 ⟨z4, H7, I7, r7, k3, e3, q7⟩ => ?_))
      subst e3
      cases r7
      exact wpAny_truthy_bool ⟨H7, I7, q7⟩
theorem z_chain3 {K : PySem.W.Frag} {σ : L2.St} {H : Hp} {Q : VK} {r r' r'' : R2} {ta tb tc td : TE} : tChain3 r r' r'' ta tb tc td σ H Q = ta σ H fun x H1 => tb σ H1 fun y H2 => r x y H2 fun z H3 => ∃ k, z = .bl k ∧ (if k = true then tc σ H3 fun u H4 => r' y u H4 fun z2 H5 => ∃ k2, z2 = .bl k2 ∧ (if k2 = true then td σ H5 fun v H6 => r'' u v H6 Q else Q (.bl false) H5) else Q (.bl false) H3) := rfl
/-! x in (a, b, ..): the tuple is forgotten at once -/
def tInT (neg : Bool) (ta : TE) (ts : TA) : TE := fun σ H Q => ta σ H fun x H1 => ts σ H1 fun xs H2 => xs.length ≤ sizeLine ∧ flatV x = true ∧ xs.all flatV = true ∧ Q (.bl (if neg then !inV x xs else inV x xs)) H2
theorem z_inT {neg : Bool} {ta : TE} {ts : TA} {σ : L2.St} {H : Hp} {Q : VK} : tInT neg ta ts σ H Q = ta σ H fun x H1 => ts σ H1 fun xs H2 => xs.length ≤ sizeLine ∧ flatV x = true ∧ xs.all flatV = true ∧ Q (.bl (if neg then !inV x xs else inV x xs)) H2 := rfl
theorem pe_inT {X : Cx} {a : Expr} {ta : TE} {es : List Expr} {ts : TA} {x1} {p pos : Pos} (ha : PE X a ta) (h : PA X es ts) (hm : behindInMarks .In (.Tuple es x1 p) = false) : PE X (.Compare a [.In] [.Tuple es x1 p] pos) (tInT false ta ts) := by
  refine ⟨fun pins s σ H Q I hq => ?_⟩
  refine wpAny_Compare1 (thn (ha.run pins s σ H _ I hq) fun v s1 ⟨x, H1, I1, r1, q1⟩ => wpAny_Tuple_spliced (thn (h.run p pins s1 σ H1 _ I1 q1) fun us s2 ⟨xs, H2, I2, r, z, fx, fs, q⟩ => ⟨by rw [← r.length]; exact z, ?_⟩)) hm
  have I3 : Inv X pins σ H2 { s2 with heap := s2.heap.push { cls := .type "tuple", data := .seq us.toArray } } := I2.kept (t' := s2.toks) fun b u e => Heap.get?_push_of_some _ e
  refine SeqAt.in_tupleAt (eqU x) ⟨_, Heap.get?_push_size _ rfl, rfl, _, rfl⟩ (fun w hw => mem_eqAt r1 fx r fs w (by simpa using hw)) ⟨.bl _, H2, I3, rfl, ?_⟩
  rw [show us.toArray.any (eqU x) = us.any (eqU x) by simp, any_eqU r fs]
  exact q
theorem pe_notInT {X : Cx} {a : Expr} {ta : TE} {es : List Expr} {ts : TA} {x1} {p pos : Pos} (ha : PE X a ta) (h : PA X es ts) (hm : behindInMarks .NotIn (.Tuple es x1 p) = false) : PE X (.Compare a [.NotIn] [.Tuple es x1 p] pos) (tInT true ta ts) := by
  refine ⟨fun pins s σ H Q I hq => ?_⟩
  refine wpAny_Compare1 (thn (ha.run pins s σ H _ I hq) fun v s1 ⟨x, H1, I1, r1, q1⟩ => wpAny_Tuple_spliced (thn (h.run p pins s1 σ H1 _ I1 q1) fun us s2 ⟨xs, H2, I2, r, z, fx, fs, q⟩ => ⟨by rw [← r.length]; exact z, ?_⟩)) hm
  have I3 : Inv X pins σ H2 { s2 with heap := s2.heap.push { cls := .type "tuple", data := .seq us.toArray } } := I2.kept (t' := s2.toks) fun b u e => Heap.get?_push_of_some _ e
  refine SeqAt.notIn_tupleAt (eqU x) ⟨_, Heap.get?_push_size _ rfl, rfl, _, rfl⟩ (fun w hw => mem_eqAt r1 fx r fs w (by simpa using hw)) ⟨.bl _, H2, I3, rfl, ?_⟩
  rw [show us.toArray.any (eqU x) = us.any (eqU x) by simp, any_eqU r fs]
  exact q
end L2.Z
set_option Elab.async false
set_option linter.all false
set_option maxRecDepth 100000
set_option maxHeartbeats 4000000
/-! own exceptions with one field, over any built-in -/
namespace PySem
namespace ZExc
open PySem.W PySem.Calls PyProof.Rows PySem.HandSPX
open Builtin Builtin.ObjectAttr
def iA (fn : Str) (p1 p2 : Pos) : Arguments := { posonlyargs := [], args := [{ arg := "self", annotation := none, pos := p1 }, { arg := fn, annotation := none, pos := p2 }], vararg := none, kwonlyargs := [], kw_defaults := [], kwarg := none, defaults := [] }
def iB (fn : Str) (q1 q2 q3 q4 : Pos) : List Stmt := [.Assign [.Attribute (.Name "self" q1) fn q2] (.Name fn q3) q4]
def iS (fn : Str) : Scope := { kind := .function, names := [(PySem.Str.ofString "self", .local), (fn, .local)], isGenerator := false, isCoroutine := false, more := [] }
/-- what is known of a class cn over bmB with def __init__(self, fn): self.fn = fn -/
structure ExI (K : Frag) (mg : Str → Option Value) (cn fn qi : Str) (bmB : List Value) (newId : String) (C fI : Addr) : Prop where
  gC : mg cn = some (.ref C)
  ini : excInitIn K C bmB newId = true
  ovr : excOver K C bmB = true
  sa : findIn K (.ref C) "__setattr__" = some (some (.builtin "object.__setattr__"))
  ga : findIn K (.ref C) "__getattribute__" = some (some (.builtin "BaseException.__getattribute__"))
  gg : findIn K (.ref C) "__getattr__" = some none
  noN : findIn K (.ref C) fn = some none
  tkr : takerIn K C fn = some none
  iC : findIn K (.ref C) "__init__" = some (some (.ref fI))
  tC : typeIn K (.ref fI) = some (.type "function")
  isf : isFn K (.ref fI) = true
  kC : keepIn K (.ref C) = true
  exC : subIn K (.ref C) (.type "BaseException") = some true
  tyC : typeIn K (.ref C) = some (.type "type")
  hdC : hasDictIn K C = true
  fnc : ∃ (oc : Value) (od : Option Addr) (kV doc pm : Value) (an : Option Addr) (cdv ct : Value) (osl : Array (Option Value)) (p1 p2 q1 q2 q3 q4 : Pos),
    K.lookup fI = some ⟨oc, od, .func (fnOf "__init__" qi (iA fn p1 p2) (iB fn q1 q2 q3 q4) (iS fn) .none kV doc pm an cdv ct), osl⟩ ∧ codeIn K cdv qi = true
section
variable {prog : Program} {w : World} {A : Around} {R : Result → Shared → Prop} {hp : Heap} {g : Array GenState} {d : Drawn} {t : Nat} {os : OsState}
theorem own_store {K : Frag} {B : String} {bmB : List Value} {fn : Str} {tk : Tok} {v : Value} {x C : Addr} {fv : Array Value} (SF : StoreFacts B bmB "object.__setattr__" "object") (X : K.In hp) (hx : hp.get? x = some { cls := .ref C, data := .fields fv })
    (ho : excOver K C bmB = true) (ht : takerIn K C fn = some none) (hh : hasDictIn K C = true)
    (hq : ∀ h' tk' dx, (∀ b o, b ≠ x → hp.get? b = some o → h'.get? b = some o) → hp.objs.size ≤ dx → dx ≠ x → h'.get? x = some { cls := .ref C, dict := some dx, data := .fields fv } →
      h'.Ns1 dx (fun y => if y = fn then some v else none) → R (.ok (.ret .none)) ⟨h', g, d, tk', os⟩) :
    codeAny (model prog w) A (.call (.builtin "object.__setattr__") ⟨[.ref x, .str fn tk, v], []⟩) R ⟨hp, g, d, t, os⟩ := by
  have I : InstAt hp x { cls := .ref C, data := .fields fv } C none := ⟨hx, rfl, rfl, trivial⟩
  have hxs : x ≠ hp.objs.size := Nat.ne_of_lt (Heap.lt_size hx)
  obtain ⟨cd, hcd, hdd⟩ : ∃ cd, clsIn K C = some cd ∧ cd.hasDict = true := by
    unfold hasDictIn at hh
    cases e : clsIn K C with
    | none => rw [e] at hh; cases hh
    | some cd => rw [e] at hh; exact ⟨cd, rfl, hh⟩
  refine osa_openX (s := ⟨hp, g, d, t, os⟩) SF X I ho ht fun b => ?_
  have hcls : Looks (model prog w) hp (classData C) cd := looks_clsIn X hcd
  obtain ⟨nm, bs, mro, ns, qn, hd, sn, sb, ab, col, del⟩ := cd
  dsimp only at hdd
  subst hdd
  dsimp only
  unfold storeInOwnDict ownDictForStores
  repeat (first | with_reducible refine store_in_new ?_ ?_ | with_reducible refine wpAny_loadPart_at hx ?_ | with_reducible refine hcls.at ?_ | wp_step)
  · refine ⟨{ cls := .type "dict", data := .dict #[] }, #[], 0, ?_, rfl, fun e he => absurd he (by simp), fun _ => rfl⟩
    exact (Heap.get?_update_ne _ _ _ _ (Ne.symm hxs)).trans (Heap.get?_push_at rfl rfl)
  · intro h' tk' hn' hs
    have hx1 : (hp.push { cls := .type "dict", data := .dict #[] }).get? x = some { cls := .ref C, data := .fields fv } := Heap.get?_push_of_some _ hx
    refine hq h' tk' hp.objs.size (fun b o nb eb => ?_) (Nat.le_refl _) (Ne.symm hxs) ?_ hn'
    · refine (hs.2 b (Nat.ne_of_lt (Heap.lt_size eb))).trans ?_
      exact (Heap.get?_update_ne _ _ _ _ nb).trans (Heap.get?_push_of_some _ eb)
    · refine (hs.2 x hxs).trans ?_
      exact Heap.get?_update_self _ hx1 rfl
end
theorem one_line (v : Value) : [v].length ≤ sizeLine := by
  rw [sizeLine_eq]
  exact (by decide : 1 ≤ 16777216)
theorem ld_own {M : Model} {s : Shared} {name : Str} {scope : Scope} {L a : Addr} {cd : Value} {m : Str → Option Value} {x : Str} {pos : Pos} {v : Value} {Q : Value → Shared → Prop} {A : Around} {E : Value → Shared → Prop} (hn : s.heap.Ns L m) (hv : m x = some v) (h : Q v s)
    (hk : scope.kind = .function) (hl : (envOfC name scope L a cd).kindOf x = some .local) (hd : (x == ("__debug__" : Str)) = false) :
    wpAny M A (eval (.Name x pos) (envOfC name scope L a cd)) Q E s := wpAny_Name (wpAny_loadName_local hk hl hn hv h) hd
/-- what __init__ leaves of a fresh exception at x -/
structure IniEnd (fn : Str) (h h' : Heap) (x C dx t1 : Addr) (v : Value) : Prop where
  keep : ∀ b o, b ≠ x → h.get? b = some o → h'.get? b = some o
  obj : h'.get? x = some { cls := .ref C, dict := some dx, data := .fields #[.ref t1, .none, .none, .none, .bool false, .none] }
  dbig : h.objs.size ≤ dx
  dne : dx ≠ x
  ns : h'.Ns1 dx (fun y => if y = fn then some v else none)
/-- a made one -/
structure Made1 (fn : Str) (h h' : Heap) (e C d : Addr) (v : Value) : Prop where
  keep : ∀ b o, h.get? b = some o → h'.get? b = some o
  new : h.objs.size ≤ e
  obj : ∃ oe vs, h'.get? e = some oe ∧ oe.cls = .ref C ∧ oe.dict = some d ∧ oe.data = .fields vs ∧ vs[1]? = some .none
  dbig : h.objs.size ≤ d
  dne : d ≠ e
  ns : h'.Ns1 d (fun y => if y = fn then some v else none)
abbrev selfS : Str := PySem.Str.ofString "self"
/-- what the field's name has to be -/
structure FnOk1 (fn : Str) : Prop where
  db : (fn == ("__debug__" : Str)) = false
  k1 : ∀ (qi : Str) (L a : Addr) (cd : Value), (envOfC qi (iS fn) L a cd).kindOf selfS = some .local
  k2 : ∀ (qi : Str) (L a : Addr) (cd : Value), (envOfC qi (iS fn) L a cd).kindOf fn = some .local
  kd : ∀ x v : Value, ([(selfS, x), (fn, v)].all fun y => (iS fn).names.lookup y.1 == some .local || (iS fn).names.lookup y.1 == some .cell) = true
  l1 : ∀ (qi : Str) (L a : Addr) (cd x v : Value), bindL (envOfC qi (iS fn) L a cd).kindOf [(selfS, x), (fn, v)] (fun _ => none) selfS = some x
  l2 : ∀ (qi : Str) (L a : Addr) (cd x v : Value), bindL (envOfC qi (iS fn) L a cd).kindOf [(selfS, x), (fn, v)] (fun _ => none) fn = some v
  bs : ∀ (x v : Value) (qi : Str) (p1 p2 q1 q2 q3 q4 : Pos) (kV doc pm : Value) (an : Option Addr) (cdv ct : Value), bindArgs (fnOf "__init__" qi (iA fn p1 p2) (iB fn q1 q2 q3 q4) (iS fn) .none kV doc pm an cdv ct) ⟨[x, v], []⟩ = pure [(selfS, x), (fn, v)]
section
variable {prog : Program} {w : World} {A : Around} {E : Value → Shared → Prop} {R : Result → Shared → Prop} {s : Shared} {K : Frag} {mg : Str → Option Value} {C fI : Addr} {cn fn qi : Str} {B newId initId : String} {bmB : List Value}
theorem one_init (SF : StoreFacts B bmB "object.__setattr__" "object") (T : ExI K mg cn fn qi bmB newId C fI) (FO : FnOk1 fn) {x t0 : Addr} {v : Value} (X : K.In s.heap) (hlim : s.heap.NoLimit) (hx : s.heap.get? x = some (excO C t0)) (hroom : A.depth < recursionLimit)
    (hq : ∀ h' tk dx, IniEnd fn s.heap h' x C dx t0 v → R (.ok (.ret .none)) { s with heap := h', toks := tk }) :
    codeAny (model prog w) A (.call (.ref fI) ⟨[.ref x, v], []⟩) R s := by
  obtain ⟨oc, od, kV, doc, pm, an, cdv, ct, osl, p1, p2, q1, q2, q3, q4, ho, hcd⟩ := T.fnc
  refine Att.call_fn (binds := [(selfS, .ref x), (fn, v)]) X hlim ho hcd hroom (BindsTo.of_eq (FO.bs (.ref x) v qi p1 p2 q1 q2 q3 q4 kV doc pm an cdv ct)) (FO.kd _ _) (fun s1 IC => ?_) rfl rfl rfl
  obtain ⟨h1, tk1, rfl⟩ := IC.toInCall.same
  have kp : ∀ b o, s.heap.get? b = some o → h1.get? b = some o := IC.toInCall.keep
  have nsL := IC.toInCall.ns
  have fresh : s.heap.objs.size < h1.objs.size := nsL.lt
  show wpAny _ _ (execs _ _) _ _ _
  refine wpAny_execs_cons (plainObj_wpAny_Assign_Attribute ?_)
  refine ld_own (v := v) nsL (FO.l2 qi _ _ _ (.ref x) v) (ld_own (v := .ref x) nsL (FO.l1 qi _ _ _ (.ref x) v) ?_ rfl (FO.k1 _ _ _ _) (by decide)) rfl (FO.k2 _ _ _ _) FO.db
  refine set_plain (X.keeps kp) (ox := excO C t0) (od := none) ⟨kp _ _ hx, rfl, rfl, trivial⟩ T.sa ?_
  refine own_store SF (X.keeps kp) (kp _ _ hx) T.ovr T.tkr T.hdC fun h3 tk3 dx k3 dn dne hx3 hn3 => ?_
  show wpAny _ _ (execs _ _) _ _ _
  exact wpAny_execs_nil (hq h3 tk3 dx ⟨fun b o nb eb => k3 b o nb (kp b o eb), hx3, Nat.le_trans (Nat.le_of_lt fresh) dn, dne, hn3⟩)
theorem one_made (FB : ExcBaseFacts B newId initId bmB) (SF : StoreFacts B bmB "object.__setattr__" "object") (T : ExI K mg cn fn qi bmB newId C fI) (FO : FnOk1 fn) {v : Value} (X : K.In s.heap) (hlim : s.heap.NoLimit) (hroom : A.depth + 1 < recursionLimit)
    (hq : ∀ h' tk e d, Made1 fn s.heap h' e C d v → R (.ok (.ret (.ref e))) { s with heap := h', toks := tk }) :
    codeAny (model prog w) A (.call (.ref C) ⟨[v], []⟩) R s := by
  obtain ⟨nm, N, qn, bs, bm, hdct, sn, sub, ab, col, dd, k0, k1, k2, k3, k5, hC, hT⟩ := excInit_of X T.ini
  obtain ⟨hp, g, dr, tk, os⟩ := s
  have kp : ∀ b o, hp.get? b = some o → ((hp.push (kdv_tup [v])).push (excO C hp.objs.size)).get? b = some o := fun b o e => Heap.get?_push_of_some _ (Heap.get?_push_of_some _ e)
  have atx : ((hp.push (kdv_tup [v])).push (excO C hp.objs.size)).get? (hp.objs.size + 1) = some (excO C hp.objs.size) := by heap_get
  refine call_own FB hT hC (looks_findIn X T.iC) (fun self => bind_fn X self T.tC) (one_line v) ?_
  refine one_init (s := ⟨(hp.push (kdv_tup [v])).push (excO C hp.objs.size), g, dr, tk, os⟩) SF T FO (X.keeps kp) (hlim.keeps kp) atx ?_ fun h' tk' dx M => ?_
  · show A.depth + 1 < recursionLimit
    exact hroom
  · have old : ∀ b o, hp.get? b = some o → h'.get? b = some o := fun b o e => M.keep b o (Nat.ne_of_lt (Nat.lt_succ_of_lt (Heap.lt_size e))) (kp b o e)
    have big : hp.objs.size + 1 + 1 ≤ dx := by
      have := M.dbig
      simpa only [Heap.size_push] using this
    exact ⟨rfl, hq h' tk' (hp.objs.size + 1) dx ⟨old, Nat.le_succ _, ⟨_, _, M.obj, rfl, rfl, rfl, rfl⟩, by show hp.objs.size ≤ dx; omega, M.dne, M.ns⟩⟩
end
theorem fnOk_given : FnOk1 ("given" : Str) := ⟨by decide, fun _ _ _ _ => by kernel_rfl, fun _ _ _ _ => by kernel_rfl, fun _ _ => by kernel_rfl, fun _ _ _ _ _ _ => by kernel_rfl, fun _ _ _ _ _ _ => by kernel_rfl, fun _ _ _ _ _ _ _ _ _ _ _ _ _ _ _ => by with_unfolding_all rfl⟩
theorem fnOk_value : FnOk1 ("value" : Str) := ⟨by decide, fun _ _ _ _ => by kernel_rfl, fun _ _ _ _ => by kernel_rfl, fun _ _ => by kernel_rfl, fun _ _ _ _ _ _ => by kernel_rfl, fun _ _ _ _ _ _ => by kernel_rfl, fun _ _ _ _ _ _ _ _ _ _ _ _ _ _ _ => by with_unfolding_all rfl⟩
end ZExc
end PySem
namespace L2.Z
open PySem PySem.Spec PyProof.Rows PySem.ZExc
section
variable {X : Cx} {C fI : Addr} {cn fn qi : Str} {B newId initId : String} {bmB : List Value}
/-- C(e) -/
def tMk1 (fn : Str) (C : Addr) (ta : TA) : L2.St → Hp → XK → Prop := fun σ H Q => ta σ H fun vs H1 => ∃ v, vs = [v] ∧ ∀ d, H1 d = none → Q (.ref C) (some d) (upd H1 d (.xd [(fn, v)]))
theorem relO_one {fn : Str} {v : V} {u : Value} (r : RelV v u) (f : Str) : RelO (List.lookup f [(fn, v)]) (if f = fn then some u else none) := by
  have e : List.lookup f [(fn, v)] = if f = fn then some v else none := by
    by_cases h : f = fn
    · subst h
      simp [List.lookup]
    · have h2 : (f == fn) = false := by simpa using h
      simp [List.lookup, h2, h]
  rw [e]
  by_cases h : f = fn
  · rw [if_pos h, if_pos h]; exact r
  · rw [if_neg h, if_neg h]; trivial
theorem pmk1 (FB : ExcBaseFacts B newId initId bmB) (SF : StoreFacts B bmB "object.__setattr__" "object") (FO : FnOk1 fn) {a : Expr} {ta : TA} {p pos : Pos} {k : Nat} (T : ExI X.K X.mg cn fn qi bmB newId C fI) (hr : Room k X.A) (ha : PA X [a] ta) (hg : Gl X cn) (hdb : (cn == ("__debug__" : Str)) = false)
    (he : starEach (a :: []) X.env = (false, eval a X.env) :: starEach [] X.env := by rfl) (hpl : (backTo pos (starEach [] X.env)).any (·.1) = false := by rfl) :
    PMk X (.Call (.Name cn p) [a] [] pos) (tMk1 fn C ta) := by
  intro pins s0 σ H Q I h
  refine wpAny_Call_Name_kw (ld_glob I hg T.gC ?_ hdb)
  refine PySem.W.callWith_K (h₀ := X.base) I.ok.mod.kin T.kC (thn (ha.run pos pins s0 σ H _ I h) fun us s1 hh => ?_) he hpl
  obtain ⟨vs, H1, I1, r1, v, rfl, q1⟩ := hh
  refine ⟨I1.kIn, ?_⟩
  obtain ⟨u, rfl, rv⟩ := vals1 r1
  show wpAny _ _ (call (.ref C) [u]) _ _ _
  have lim := I1.nolimit
  obtain ⟨hp, g, dr, tk, os⟩ := s1
  refine wpAny_call (one_made FB SF T FO I1.kIn lim (by have := hr.dp; omega) fun h' tk' e d M => ?_)
  show MkP X pins σ Q (.ref e) ⟨h', g, dr, tk', os⟩
  obtain ⟨oe, fv, hoe, hc, hd, hdat, h1⟩ := M.obj
  obtain ⟨G, g1, g2⟩ := restrict h' fun b => decide (b ≠ e)
  have gk : ∀ b, b ≠ e → G.get? b = h'.get? b := fun b hb => g1 b (decide_eq_true hb)
  have ge : G.get? e = none := g2 e (by simp)
  have old : ∀ b o, hp.get? b = some o → G.get? b = some o := fun b o q => (gk b (Nat.ne_of_lt (Nat.lt_of_lt_of_le (Heap.lt_size q) M.new))).trans (M.keep b o q)
  have nsd : G.Ns1 d (fun y => if y = fn then some u else none) := M.ns.at (fun o q => (gk d M.dne).trans q)
  have J : Inv X pins σ (upd H1 d (.xd [(fn, v)])) ⟨G, g, dr, tk', os⟩ := I1.laid (t' := tk') old M.dbig ⟨_, nsd, fun f => relO_one rv f⟩
  refine ⟨e, oe, fv, ⟨G, g, dr, tk', os⟩, _, .ref C, some d, rfl, J, fun b o q => ?_, ge, hoe, ⟨hc, hd⟩, hdat, h1, ?_, rfl, I1.bare, raises_own T.exC T.tyC, q1 d (I1.hok.fresh M.dbig)⟩
  · have nb : b ≠ e := fun z => by
      subst z
      rw [show G.get? b = none from ge] at q
      cases q
    exact (gk b nb).symm.trans q
  · rw [upd_ne (Ne.symm M.dne)]
    exact I1.hok.fresh M.new
/-- raise C(e) -/
def tRaise1 (fn : Str) (C : Addr) (W : WX) (ta : TA) : TS := fun _ σ H => tMk1 fn C ta σ H fun cls d H' => W cls d σ H'
theorem ps_raise1 {W : WX} (FB : ExcBaseFacts B newId initId bmB) (SF : StoreFacts B bmB "object.__setattr__" "object") (FO : FnOk1 fn) {a : Expr} {ta : TA} {p pos pos2 : Pos} {k : Nat} (hc : X.calm = true) (T : ExI X.K X.mg cn fn qi bmB newId C fI) (hr : Room k X.A) (tk : Takes X W) (ha : PA X [a] ta) (hg : Gl X cn)
    (hdb : (cn == ("__debug__" : Str)) = false) (he : starEach (a :: []) X.env = (false, eval a X.env) :: starEach [] X.env := by rfl) (hpl : (backTo pos (starEach [] X.env)).any (·.1) = false := by rfl) :
    PS X (.Raise (some (.Call (.Name cn p) [a] [] pos)) none pos2) (tRaise1 fn C W ta) := ps_raise hc tk (pmk1 FB SF FO T hr ha hg hdb he hpl)
/-- e.fn, e the exception that the suite holds -/
def tField (fn : Str) (C : Addr) (a : Addr) (cls : Value) (d : Option Addr) (te : TE) : TE := fun σ H Q => te σ H fun x H1 => x = .ref a ∧ cls = .ref C ∧ ∃ (dd : Addr) (v : V), d = some dd ∧ H1 dd = some (.xd [(fn, v)]) ∧ Q v H1
theorem pe_field1 {a : Addr} {oe : Obj} {cls : Value} {d : Option Addr} {pn : List (Addr × Obj)} {e : Expr} {te : TE} {pos : Pos} (T : ExI X.K X.mg cn fn qi bmB newId C fI) (hz : Zc cls d oe) (hf : ∃ vs, oe.data = .fields vs) (he : PE (X.suite a ((a, oe) :: pn)) e te)
    (hb : attributeBase e fn X.env (eval e X.env) = eval e X.env := by rfl) :
    PE (X.suite a ((a, oe) :: pn)) (.Attribute e fn pos) (tField fn C a cls d te) := by
  refine ⟨fun pins s0 σ H Q I h => ?_⟩
  refine attr_of hb (thn (he.run pins s0 σ H _ I h) fun u s1 hh => ?_)
  obtain ⟨x, H1, I1, rx, rfl, rfl, dd, v, rfl, ea, q⟩ := hh
  cases (show u = Value.ref a from rx)
  obtain ⟨ha, _⟩ := I1.pin (a, oe) (List.mem_append_left _ List.mem_cons_self)
  obtain ⟨vs, hd⟩ := hf
  obtain ⟨mA, hns, hr⟩ := (show ∃ mA, s1.heap.Ns1 dd mA ∧ ∀ f, RelO (List.lookup f [(fn, v)]) (mA f) from I1.hok dd _ ea)
  obtain ⟨od, ho, hl⟩ := lookIn_ns hns
  have l : List.lookup fn [(fn, v)] = some v := by simp [List.lookup]
  obtain ⟨u2, hu, ru⟩ := RelO.some_of (v := v) (o := mA fn) (by rw [← l]; exact hr fn)
  have J : PySem.W.InstAt s1.heap a oe C (some od) := ⟨ha, hz.1, by unfold PySem.W.notCls; rw [hd] <;> rfl, by rw [hz.2]; exact ho⟩
  exact HandSPX.exc_get I1.kIn J T.ga T.gg T.exC (PySem.W.findObj_own T.hdC T.noN rfl (by rw [hl, hu])) (handed_of ru) ⟨v, H1, I1.tok _, ru, q⟩
end
end L2.Z

set_option Elab.async false
set_option linter.all false
set_option maxRecDepth 100000
set_option maxHeartbeats 4000000
namespace L2.Z
open PySem PySem.Spec PyProof.Rows
/-! ### try with several clauses, with and without names -/
section
variable {X : Cx} {pins : List (Addr × Obj)} {σ : L2.St} {H : Hp} {a : Addr} {cls : Value} {d : Option Addr} {s : Shared}
/-- the exception at a is taken down in X at s -/
def Down (X : Cx) (pins : List (Addr × Obj)) (σ : L2.St) (H : Hp) (a : Addr) (cls : Value) (d : Option Addr) (s : Shared) : Prop :=
  ∃ (B : Heap) (s0 : Shared), Inv X pins σ H s0 ∧ (∀ b o, s0.heap.get? b = some o → b ∉ frs X.stack → B.get? b = some o) ∧ s0.heap.UpToSlots s.heap ∧ HandSPX.FlyingZ B (X.env :: X.outer) a (Zc cls d) s.heap ∧ H a = none ∧ s.os = s0.os ∧ AllBare s.gens
theorem Down.inv (D : Down X pins σ H a cls d s) : Inv X pins σ H s := by
  obtain ⟨B, s0, I, nb, up, fl, _, os, ag⟩ := D
  exact I.landed nb fl.1 up os ag
theorem Down.suite (D : Down X pins σ H a cls d s) (hs : X.stack = X.env :: X.outer) (hf : X.env.frame = some X.env.locals) :
    ∃ oe vs, s.heap.get? a = some oe ∧ Zc cls d oe ∧ oe.data = .fields vs ∧ Inv (X.suite a ((a, oe) :: (X.pn ++ pins))) [] σ H s := by
  have I := D.inv
  obtain ⟨B, s0, _, _, _, fl, na, _, _⟩ := D
  obtain ⟨oe, vs, he, hz, hd⟩ := fl.there
  have out : a ∉ frs (X.env :: X.outer) := fun hm => by
    obtain ⟨_, o', e', hnf⟩ := fl.2.2.1.mem hm
    rw [he] at e'
    cases e'
    exact hnf _ hd
  refine ⟨oe, vs, he, hz, hd, I.suite he hd na (fun z => ?_) fun z => ?_⟩
  · exact out (List.mem_filterMap.mpr ⟨X.env, List.mem_cons_self, by rw [hf, z]⟩)
  · obtain ⟨e1, h1, h2⟩ := List.mem_filterMap.mp z
    exact out (List.mem_filterMap.mpr ⟨e1, List.mem_cons_of_mem _ h1, h2⟩)
/-- its flight is put out once more -/
theorem Down.again {A : Around} {E : Value → Shared → Prop} {Q : Unit → Shared → Prop} (D : Down X pins σ H a cls d s) (q : ∀ s', Down X pins σ H a cls d s' → Q () s') : wpAny (model X.prog X.w) A (setFlight (.ref a) none) Q E s := by
  obtain ⟨B, s0, I, nb, up, fl, na, os, ag⟩ := D
  exact HandSPX.lands_againZ fl fun h4 f4 u4 => q _ ⟨B, s0, I, nb, up.trans u4, f4, na, os, ag⟩
/-- the clause's class is looked up, and asked -/
theorem Down.asks {x : Str} {np : Pos} {c : Value} {b : Bool} {R : Bool → Shared → Prop} {E : Value → Shared → Prop} (D : Down X pins σ H a cls d s) (hs : X.stack = X.env :: X.outer) (hf : X.env.frame = some X.env.locals) (hc : Names X x c)
    (hb : PySem.W.exmOne X.K cls c = some b) (r : R b s) :
    wpAny (model X.prog X.w) (X.A.mark (some (.ref a))) (eval (.Name x np) X.env) (fun c1 s1 => wpAny (model X.prog X.w) (X.A.mark (some (.ref a))) (excMatches (.ref a) c1) R E s1) E s := by
  obtain ⟨oe, vs, he, hz, hd, S⟩ := D.suite hs hf
  have ty : PySem.W.Looks (model X.prog X.w) s.heap (typeOf (.ref a)) cls := fun _ _ _ _ k q => wpAny_typeOf_ref (k _ _ he) (by rw [hz.1]; exact q)
  have ans := PySem.W.exm_one (M := model X.prog X.w) S.kIn ty hb
  obtain ⟨g1, g2, g3 | ⟨g3, g4, g5⟩⟩ := hc
  · exact ld_glob (X := X.suite a ((a, oe) :: (X.pn ++ pins))) S g1 g3 (ans.here r) g2
  · exact ld_blt (X := X.suite a ((a, oe) :: (X.pn ++ pins))) S g1 g3 g4 (ans.here r) g5 g2
/-- what a named clause makes of its suite's reading: slot i holds the exception, and is forgotten behind -/
def tNamed (i : Nat) (ts : Addr → Value → Option Addr → TS) : Addr → Value → Option Addr → TS := fun a cls d D σ H =>
  ts a cls d { nx := fun σ' H' => D.nx (σ'.set i none) H', rt := D.rt, bk := fun σ' H' => D.bk (σ'.set i none) H', ct := fun σ' H' => D.ct (σ'.set i none) H' } (σ.set i (some (.ref a))) H
/-- the clauses, one behind the other -/
inductive Cls1 (X : Cx) : List ExceptHandler → List (Value × (Addr → Value → Option Addr → TS)) → Prop
  | nil : Cls1 X [] []
  | bare {x : Str} {c : Value} {ts : Addr → Value → Option Addr → TS} {b0 : Stmt} {su : List Stmt} {np p : Pos} {hds : List ExceptHandler} {l : List (Value × (Addr → Value → Option Addr → TS))} (hc : Names X x c)
      (hsu : ∀ (a : Addr) (oe : Obj) (cls : Value) (d : Option Addr) (pn : List (Addr × Obj)), Zc cls d oe → (∃ vs, oe.data = .fields vs) → PSs (X.suite a ((a, oe) :: pn)) (b0 :: su) (ts a cls d)) (r : Cls1 X hds l) :
      Cls1 X (.ExceptHandler (some (.Name x np)) none (b0 :: su) p :: hds) ((c, ts) :: l)
  | named {x n : Str} {i : Nat} {c : Value} {ts : Addr → Value → Option Addr → TS} {b0 : Stmt} {su : List Stmt} {np p : Pos} {hds : List ExceptHandler} {l : List (Value × (Addr → Value → Option Addr → TS))} (hc : Names X x c)
      (hN : X.N.Nodup) (hi : X.N[i]? = some n) (hln : X.env.kindOf n = some .local)
      (hsu : ∀ (a : Addr) (oe : Obj) (cls : Value) (d : Option Addr) (pn : List (Addr × Obj)), Zc cls d oe → (∃ vs, oe.data = .fields vs) → PSs (X.suite a ((a, oe) :: pn)) (b0 :: su) (ts a cls d)) (r : Cls1 X hds l) :
      Cls1 X (.ExceptHandler (some (.Name x np)) (some n) (b0 :: su) p :: hds) ((c, tNamed i ts) :: l)
theorem Cls1.runs {Wout : WX} {D : Ends} {hds : List ExceptHandler} {l : List (Value × (Addr → Value → Option Addr → TS))} (k : Cls1 X hds l) (hs : X.stack = X.env :: X.outer) (hf : X.env.frame = some X.env.locals) (tk : Takes X Wout) (G : Down X pins σ H a cls d s)
    (w : wMany X.K Wout D l cls d σ H) : wpAny (model X.prog X.w) X.A (handleBy (.ref a) X.env hds) (SP X pins D) X.xe s := by
  have ok := G.inv.ok
  induction k with
  | nil =>
    obtain ⟨B, s0, I, nb, up, fl, na, os, ag⟩ := G
    refine wpAny_handleBy_nil ?_
    obtain ⟨_, _, _, oe, vs, T, _, _, he, _, hd, h1, _⟩ := id fl
    have up1 : wpAny (model X.prog X.w) X.A (setFlight (.ref a) X.env.frame) (fun _ s4 => wpAny (model X.prog X.w) X.A (throw (.ref a) : Sem Flow) (SP X pins D) X.xe s4) X.xe s := by
      rw [hf]
      refine HandSPX.setFlight_upZ fl fun h4 held u4 => wpAny_throw (tk _ _ ?_)
      refine ⟨a, B, s0, pins, σ, H, cls, d, rfl, I, nb, up.trans u4, .inr (.inr ?_), na, os, ag, w⟩
      rw [hs]
      exact held
    unfold PySem.passOn
    refine wpAny_bind (wpAny_field he hd h1 ?_)
    rw [if_neg (by simp)]
    first
      | exact wpAny_bind (wpAny_pure (wpAny_bind up1))
      | exact wpAny_bind up1
  | bare hc hsu r ih =>
    obtain ⟨b, hb, yes, no⟩ := w
    refine wpAny_handleBy_cons (codeAny_handlers_test (G.asks hs hf hc hb ?_)) (by intro q; cases q)
    cases b with
    | false => exact ih (no rfl)
    | true =>
      refine codeAny_handlers_suite (G.again fun s4 G4 => ?_)
      obtain ⟨oe, vs, he, hz, hd, S⟩ := G4.suite hs hf
      have na : H a = none := by
        obtain ⟨_, _, _, _, _, _, z, _⟩ := G4
        exact z
      refine wpAny_mono ((hsu a oe cls d (X.pn ++ pins) hz ⟨_, hd⟩).run [] _ _ H _ S (yes rfl a na)) (fun f s6 hsp => ?_) (fun _ _ z => False.elim z)
      cases f with
      | ret u =>
        obtain ⟨v6, σ6, H6, S6, r6, q6⟩ := hsp
        exact ⟨_, _, _, S6.unsuite ok, r6, q6⟩
      | _ =>
        obtain ⟨σ6, H6, S6, q6⟩ := hsp
        exact ⟨_, _, S6.unsuite ok, q6⟩
  | @named x n i c ts b0 su np p hds2 l2 hc hN hi hln hsu r ih =>
    obtain ⟨b, hb, yes, no⟩ := w
    refine wpAny_handleBy_cons (codeAny_handlers_test (G.asks hs hf hc hb ?_)) (by intro q; cases q)
    cases b with
    | false => exact ih (no rfl)
    | true =>
      refine codeAny_handlers_suite_as (G.again fun s4 G4 => ?_)
      obtain ⟨oe, vs, he, hz, hd, S⟩ := G4.suite hs hf
      have na : H a = none := by
        obtain ⟨_, _, _, _, _, _, z, _⟩ := G4
        exact z
      refine store_ok (X := X.suite a ((a, oe) :: (X.pn ++ pins))) (v := .ref a) S hN hi (.inl hln) rfl (fun s5 S5 => ?_) (.inr hln)
      refine wpAny_mono ((hsu a oe cls d (X.pn ++ pins) hz ⟨_, hd⟩).run [] s5 _ H _ S5 (yes rfl a na)) (fun f s6 hsp => ?_) (fun _ _ z => False.elim z)
      cases f with
      | ret u =>
        obtain ⟨v6, σ6, H6, S6, r6, q6⟩ := hsp
        exact gone_ok (S6.unsuite ok) hN hi hln fun s7 J => ⟨_, _, _, J, r6, q6⟩
      | _ =>
        obtain ⟨σ6, H6, S6, q6⟩ := hsp
        exact gone_ok (S6.unsuite ok) hN hi hln fun s7 J => ⟨_, _, J, q6⟩
theorem ps_try_mix {body : List Stmt} {h0 : ExceptHandler} {hds : List ExceptHandler} {l : List (Value × (Addr → Value → Option Addr → TS))} {pos : Pos} {tb : WX → TS} {Wout : WX} (hs : X.stack = X.env :: X.outer) (hf : X.env.frame = some X.env.locals) (tk : Takes X Wout)
    (hb : ∀ (W : WX) (pn : List (Addr × Obj)) (xe : Value → Shared → Prop), Takes (X.tr pn xe) W → PassesOwn (model X.prog X.w) X.A X.env xe → PSs (X.tr pn xe) body (tb W))
    (k : Cls1 X (h0 :: hds) l) : PS X (.Try body (h0 :: hds) [] [] pos) (fun D σ H => tb (wMany X.K Wout D l) D σ H) := by
  refine ⟨fun pins s σ H D I h => wpAny_Try_except ?_⟩
  have frm : X.A.frames = some (X.env :: X.outer) := by rw [I.ok.frames, hs]
  refine wpAny_mono ((hb (wMany X.K Wout D l) (X.pn ++ pins) _ (fun u s' xx => ?_) PassesOwn.looking).run [] s σ H D (I.toTry _) h) (fun f s1 hsp => ?_) (fun e s1 he => he)
  · obtain ⟨a, B, sI, pins', σ', H', cls, d, rfl, J, nb, up, sky, na, os, ag, w⟩ := xx
    have sky2 : Sky B (X.env :: X.outer) a (Zc cls d) X.env.locals s'.heap := hs ▸ sky
    refine Sky.land Zc.steady frm hf sky2 fun h3 fl u3 => ?_
    exact k.runs hs hf tk ⟨B, sI, J.ofTry I.ok, nb, up.trans u3, fl, na, os, ag⟩ w
  · cases f with
    | ret v =>
      obtain ⟨v2, σ', H', J, r, q⟩ := hsp
      exact ⟨v2, σ', H', J.ofTry I.ok, r, q⟩
    | next =>
      obtain ⟨σ', H', J, q⟩ := hsp
      exact wpAny_execs_nil ⟨σ', H', J.ofTry I.ok, q⟩
    | _ =>
      obtain ⟨σ', H', J, q⟩ := hsp
      exact ⟨σ', H', J.ofTry I.ok, q⟩
end
end L2.Z

set_option Elab.async false
set_option linter.all false
set_option maxRecDepth 100000
set_option maxHeartbeats 4000000
namespace L2.Z
open PySem PySem.Spec PyProof.Rows
/-! ### repr of plain values, where no repr is under way -/
/-- the text that repr tells -/
def RepV (K : PySem.W.Frag) (H : Hp) (v : V) (z : Str) : Prop :=
  (∃ d, Dp K H v d ∧ d.showable = true ∧ d.hasDict = false ∧ d.depth ≤ 64 ∧ d.shown.length ≤ sizeLine ∧ z = d.shown) ∨ (∃ a, v = .ref a ∧ H a = some (.dK []) ∧ z = (PyData.dict []).shown)
def rRepV (K : PySem.W.Frag) : List V → Hp → VK → Prop := fun xs H Q => ∃ v z, xs = [v] ∧ RepV K H v z ∧ Q (.str z) H
theorem dk_empty {P : Program} {w : World} {H : Hp} {h : Heap} {a : Addr} (ok : HOk P w H h) (e : H a = some (.dK [])) : ∃ as, Reads h (.ref a) (.dict []) as ∧ sysModules ∉ as := by
  obtain ⟨hz, ns, vs, r, o, es, ep, ho, hx, hd, _, hp, _⟩ := dk_of ok e
  cases r
  have en : es.toList = [] := by
    cases hl : es.toList with
    | nil => rfl
    | cons x l => rw [hl] at hp; cases hp
  have hc : o.cls = .type "dict" := hx.1
  refine ⟨a :: [] ++ [], Reads.dict (kvs := []) ho hc hd (by rw [en]; exact ReadsAll.nil) (by rw [en]; exact ReadsAll.nil), fun z => ?_⟩
  have e2 : sysModules = a := by simpa using z
  rw [e2] at ns
  simp at ns
theorem call_repV {X : Cx} (hg : X.A.guards = some []) (hu : X.A.units + 80 < cLine) : CallR X (.builtin "repr") (rRepV X.K) := by
  intro pins s σ H xs us Q I r h
  obtain ⟨v, z, rfl, hz, q⟩ := h
  obtain ⟨u, rfl, r1⟩ := vals1 r
  rcases hz with ⟨d, hd, h1, h2, h3, h4, rfl⟩ | ⟨a, rfl, ha, rfl⟩
  · obtain ⟨as, rd⟩ := Dp.reads I d v u hd r1
    cases d with
    | none =>
      cases rd
      exact PySem.P.repr_of_none ⟨.str _, H, I.tok _, ⟨_, rfl⟩, q⟩
    | bool b =>
      cases rd
      exact PySem.P.repr_of_bool ⟨.str _, H, I.tok _, ⟨_, rfl⟩, q⟩
    | int i =>
      cases rd
      exact PySem.P.repr_of_int (by simpa [PyData.showable] using h1) ⟨.str _, H, I.tok _, ⟨_, rfl⟩, q⟩
    | str x =>
      cases rd
      exact PySem.P.repr_of_str ⟨.str _, H, I.tok _, ⟨_, rfl⟩, q⟩ h4
    | list l =>
      obtain ⟨a, rfl⟩ : ∃ a, u = Value.ref a := by cases rd; exact ⟨_, rfl⟩
      refine PySem.repr_of_reads' rd h1 (fun z => by rw [h2] at z; cases z) hg (by omega) (fun _ _ e => e) (fun h' u tk k => ⟨.str _, H, I.kept k, ⟨_, rfl⟩, q⟩) h4
    | tuple l =>
      obtain ⟨a, rfl⟩ : ∃ a, u = Value.ref a := by cases rd; exact ⟨_, rfl⟩
      refine PySem.repr_of_reads' rd h1 (fun z => by rw [h2] at z; cases z) hg (by omega) (fun _ _ e => e) (fun h' u tk k => ⟨.str _, H, I.kept k, ⟨_, rfl⟩, q⟩) h4
    | dict l => exact absurd h2 (by simp [PyData.hasDict])
  · cases (show u = Value.ref a from r1)
    obtain ⟨as, rd, ns⟩ := dk_empty I.hok ha
    exact PySem.repr_of_reads' rd (by decide) (fun _ => ns) hg (by simp only [PyData.depth, PyData.depthKv]; omega) (fun _ _ e => e) (fun h' u tk k => ⟨.str _, H, I.kept k, ⟨_, rfl⟩, q⟩) (by decide +kernel)
end L2.Z

set_option Elab.async false
set_option linter.all false
set_option maxRecDepth 100000
set_option maxHeartbeats 4000000
namespace L2.Z
open PySem PySem.Spec PyProof.Rows LamX
/-! ### defs that are promised only where no repr is under way -/
structure FnOkG (P : Program) (w : World) (K : PySem.W.Frag) (mg : Str → Option Value) (base : Heap) (CX : CXT) (k : Nat) (f : Addr) (fd : FuncData) (ps : List Str) (sp : Sp) : Prop where
  len : ∀ vs H Q E, sp vs H Q E → vs.length = ps.length
  run : ∀ (A : Around) (outer : List Env) (s : Shared) (H : Hp) (args : Args) (us : List Value) (vs : List V) (Q : VK) (E : XK), A.guards = some [] → Room k A → Env0 P w K mg base A outer s H → BindsTo s fd args (ps.zip us) → Vals vs us → sp vs H Q E →
    codeAny (model P w) A (.call (.ref f) args) (CR CX outer P w H s Q E) s
section
variable {P : Program} {w : World} {K : PySem.W.Frag} {mg : Str → Option Value} {base : Heap} {x qual : Str} {params : Arguments} {body : List Stmt} {scope : Scope} {f : Addr} {fd : FuncData} {CX : CXT} {N ps : List Str} {k : Nat} {sp : Sp}
theorem okG (F : FunD K x qual params body scope [] [] f fd) (S : FnScope N ps scope) (len : ∀ vs H Q E, sp vs H Q E → vs.length = ps.length)
    (hbody : ∀ (c : Addr) (A : Around) (outer : List Env) (s : Shared) (H : Hp) (vs : List V) (Q : VK) (E : XK), fd.code = .ref c → A.guards = some [] → Room k (A.deeper (envOfC qual scope s.heap.objs.size f (.ref c))) → sp vs H Q E →
      ∃ t, PSs (cxOf CX P w K mg base N qual scope f (.ref c) A outer s H E) body t ∧ t { nx := fun _ H' => Q .non H', rt := Q } (L2.start N vs) H) : FnOkG P w K mg base CX (k + 1) f fd ps sp := by
  obtain ⟨oc, od, dV, kV, doc, pm, an, cdv, ct, osl, rfl, lk, hcd, _, _⟩ := F.ex
  obtain ⟨c, rfl⟩ := He.codeIn_ref hcd
  exact ⟨len, fun A outer s H args us vs Q E hg hr e0 hb r h => run_ofS lk hcd S hr e0 hb r (len _ _ _ _ h) fun hr2 => hbody c A outer s H vs Q E rfl hg hr2 h⟩
end
section
variable {X : Cx} {CX : CXT} {k : Nat} {f : Addr} {fd : FuncData} {ps : List Str} {sp : Sp} {E : XK} {x : Str} {p pos : Pos} {e : Expr} {es : List Expr} {t : TA}
theorem pe_callG (F : FnOkG X.prog X.w X.K X.mg X.base CX k f fd ps sp) (gd : X.A.guards = some []) (hr : Room k X.A) (hg : Gl X x) (hm : X.mg x = some (.ref f)) (hk : PySem.W.keepIn X.K (.ref f) = true) (hb : L2.Binds X.K fd ps []) (hx : Passes CX X E)
    (ha : PA X (e :: es) t) (hdb : (x == ("__debug__" : Str)) = false := by decide) (he : starEach (e :: es) X.env = (false, eval e X.env) :: starEach es X.env := by rfl) (hpl : (backTo pos (starEach es X.env)).any (·.1) = false := by rfl) :
    PE X (.Call (.Name x p) (e :: es) [] pos) (tCall sp [] E t) := by
  refine ⟨fun pins s0 σ H Q I h => wpAny_Call_Name_kw (ld_glob I hg hm ?_ hdb)⟩
  refine PySem.W.callWith_K (h₀ := X.base) I.ok.mod.kin hk (thn (ha.run pos pins s0 σ H _ I h) fun us s1 ⟨vs, H1, I1, r, q⟩ => ⟨I1.kIn, ?_⟩) he hpl
  have q2 : sp vs H1 Q E := by
    have q3 : sp (vs ++ []) H1 Q E := q
    rwa [List.append_nil] at q3
  have hl : us.length = ps.length := by rw [← r.length]; exact F.len _ _ _ _ q2
  have b := hb s1 us I1.kIn (by rw [List.append_nil]; exact hl)
  rw [List.append_nil] at b
  refine wpAny_call (codeAny_mono (F.run X.A X.stack s1 H1 _ us vs Q E gd hr I1.env0 b r q2) fun rr s2 hq => ?_)
  match rr, hq with
  | .error e, hq => exact hx pins σ H1 s1 e s2 I1 hq
  | .ok (.ret u), hq => exact I1.after hq
  | .ok .next, hq => exact False.elim hq
  | .ok .brk, hq => exact False.elim hq
  | .ok .cont, hq => exact False.elim hq
end
end L2.Z

set_option Elab.async false
set_option linter.all false
set_option maxRecDepth 100000
set_option maxHeartbeats 4000000
namespace L2.Z
open PySem PySem.Spec PyProof.Rows LamX
/-! ### the end of a law whose promise wants that no repr is under way -/
abbrev listO (vs : List Value) : Obj := { cls := .type "list", data := .seq vs.toArray }
abbrev tabO : Obj := { cls := .none, data := .fields #[] }
theorem list_ne_tab {vs : List Value} : listO vs ≠ tabO := fun z => by
  have y : Data.seq vs.toArray _ = Data.fields #[] := congrArg Obj.data z
  cases y
/-- what is tracked when the law is called: the tables, and the script where it is not written -/
def lawH (K : PySem.W.Frag) (TA : List Addr) (a : Addr) (vs : List Value) (ns : List Int) : Hp := fun b =>
  if b ∈ TA then some (.tbl #[]) else if b = a ∧ K.lookup a = none then some (.frz (listO vs) (.lst (ns.map V.int))) else none
section
variable {K : PySem.W.Frag} {TA : List Addr} {a b : Addr} {vs : List Value} {ns : List Int} {h : Heap}
theorem lawH_tab (hb : b ∈ TA) : lawH K TA a vs ns b = some (.tbl #[]) := if_pos hb
theorem lawH_cases : lawH K TA a vs ns b = none ∨ b ∈ TA ∨ (b = a ∧ K.lookup a = none ∧ lawH K TA a vs ns b = some (.frz (listO vs) (.lst (ns.map V.int)))) := by
  unfold lawH
  by_cases h1 : b ∈ TA
  · exact .inr (.inl h1)
  · by_cases h2 : b = a ∧ K.lookup a = none
    · exact .inr (.inr ⟨h2.1, h2.2, by rw [if_neg h1, if_pos h2]⟩)
    · exact .inl (by rw [if_neg h1, if_neg h2])
/-- an object that is neither the script nor an empty table is not tracked -/
theorem lawH_none {o : Obj} (hT : ∀ c ∈ TA, h.get? c = some tabO) (ha : h.get? a = some (listO vs)) (e : h.get? b = some o) (n1 : o ≠ tabO) (n2 : o ≠ listO vs) : lawH K TA a vs ns b = none := by
  rcases lawH_cases (K := K) (TA := TA) (a := a) (b := b) (vs := vs) (ns := ns) with q | q | ⟨q, _, _⟩
  · exact q
  · exact absurd (Option.some.inj (e.symm.trans (hT b q))) n1
  · subst q
    exact absurd (Option.some.inj (e.symm.trans ha)) n2
theorem lawH_base {o : Obj} (hT : ∀ c ∈ TA, h.get? c = some tabO) (ha : h.get? a = some (listO vs)) (e : h.get? b = some o) (n1 : o ≠ tabO) (n2 : o ≠ listO vs) : (hidT h (lawH K TA a vs ns)).get? b = some o := hidT_get e (lawH_none hT ha e n1 n2)
theorem lawH_ns {m : Str → Option Value} (hT : ∀ c ∈ TA, h.get? c = some tabO) (ha : h.get? a = some (listO vs)) (n : h.Ns b m) : (hidT h (lawH K TA a vs ns)).Ns b m := by
  obtain ⟨o, es, ep, e, d, r⟩ := n
  refine ⟨o, es, ep, lawH_base hT ha e (fun z => ?_) (fun z => ?_), d, r⟩
  · rw [z] at d; cases d
  · rw [z] at d; cases d
theorem lawH_in (KX : K.In h) (hT : ∀ c ∈ TA, h.get? c = some tabO) (nT : ∀ c ∈ TA, K.lookup c = none) : K.In (hidT h (lawH K TA a vs ns)) := fun b o e => by
  refine hidT_get (KX b o e) ?_
  rcases lawH_cases (K := K) (TA := TA) (a := a) (b := b) (vs := vs) (ns := ns) with q | q | ⟨q, q2, _⟩
  · exact q
  · rw [nT b q] at e; cases e
  · subst q
    rw [q2] at e
    cases e
theorem lawH_sq (ha : h.get? a = some (listO vs)) (KX : K.In h) (aT : a ∉ TA) (hi : IntsAre vs ns) (hl : ns.length ≤ sizeLine) : SqL K (lawH K TA a vs ns) a (ns.map V.int) := by
  have rv := L2.vals_ints hi
  cases hk : K.lookup a with
  | some o =>
    have e := KX a o hk
    rw [ha] at e
    cases e
    exact .inr ⟨_, vs.toArray, _, hk, rfl, rfl, rfl, by rw [List.size_toArray, hi.length]; exact hl, by simpa using rv⟩
  | none =>
    refine .inl (.inr ⟨listO vs, ?_⟩)
    unfold lawH
    rw [if_neg aT, if_pos ⟨rfl, hk⟩]
theorem lawH_ok {P : Program} {w : World} (hT : ∀ c ∈ TA, h.get? c = some tabO) (ha : h.get? a = some (listO vs)) (hi : IntsAre vs ns) (hl : ns.length ≤ sizeLine) : HOk P w (lawH K TA a vs ns) h := fun b u e => by
  rcases lawH_cases (K := K) (TA := TA) (a := a) (b := b) (vs := vs) (ns := ns) with q | q | ⟨q, _, q3⟩
  · rw [q] at e; cases e
  · rw [lawH_tab q] at e
    cases e
    exact hT b q
  · rw [q3] at e
    cases e
    subst q
    exact ⟨ha, by rw [List.length_map]; exact hl, vs, _, L2.vals_ints hi, ha⟩
end
/-- what is known of the law's promise at the head's heap h -/
def LawAtG (l : PySem.W.OpenLaw) (w : World) (K : PySem.W.Frag) (CX : CXT) (k n : Nat) (x : Str) (mg : Str → Option Value) (fa : Addr) (h : Heap) : Prop :=
  ∃ (fd : FuncData) (cs : List (Addr × Addr)) (sp : Sp), (∀ p ∈ cs, h.get? p.2 = some tabO) ∧ (∀ p ∈ cs, K.lookup p.2 = none) ∧ (∀ p ∈ cs, PySem.W.CodeHd h p.1 p.2) ∧ (∀ (s : Shared) (u : Value), BindsTo s fd ⟨[u], []⟩ [(x, u)]) ∧
    (∀ (H : Hp) (a : Addr) (ns : List Int), ns.length ≤ n → (∀ z ∈ ns, Builtin.Int.intBits z ≤ 1048576) → (∀ p ∈ cs, H p.2 = some (.tbl #[])) → SqL K H a (ns.map V.int) → sp [.ref a] H (fun v _ => v = .bl true) fun _ _ _ => False) ∧
    ∀ base : Heap, K.In base → base.Ns mainGlobals mg → (∀ p ∈ cs, TabB base mg p.1 p.2) → FnOkG l.prog w K mg base CX k fa fd [x] sp
theorem walk_ofG {l : PySem.W.OpenLaw} {n k : Nat} {q : Program} {loose : List Str} {XP : (Str → Option Value) → Heap → Prop} {YP : World → Heap → Prop} {d : DefRec} {CX : World → CXT} {x : Str}
    (hn : l.most = some n) (hn2 : n ≤ sizeLine) (hdf : d.params.defaults = []) (hr : Room k callerA)
    (F : ∀ (w : World) (mg : Str → Option Value) (fa : Addr) (h : Heap), YP w h → h.Ns mainGlobals mg → mg d.name = some (.ref fa) → ∃ K : PySem.W.Frag, K.In h ∧ LawAtG l w K (CX w) k n x mg fa h)
    (hCX : ∀ (w : World) (H : Hp) (s : Shared) (e : Value) (s' : Shared), CX w [] H s (fun _ _ _ => False) e s' → False) :
    PySem.W.WalkO q loose XP YP l.row.toRowW d [] (fun f vs => PySem.call f vs) := by
  refine Att.attach_callB hn hdf fun w s0 s1 mg mb fa o0 pm cd doc a vs ns G Y _ _ _ hmg hobj hints hlen hbits hgens => ?_
  obtain ⟨K, KX, fd, cs, sp, tEmpty, tOut, tHd, bnd, hsp, hF⟩ := F w mg fa _ Y G.T.g hmg
  have hl : ns.length ≤ sizeLine := Nat.le_trans hlen hn2
  have hT : ∀ c ∈ cs.map (·.2), s1.heap.get? c = some tabO := fun c hc => by
    obtain ⟨p, hp, rfl⟩ := List.mem_map.mp hc
    exact tEmpty p hp
  have nT : ∀ c ∈ cs.map (·.2), K.lookup c = none := fun c hc => by
    obtain ⟨p, hp, rfl⟩ := List.mem_map.mp hc
    exact tOut p hp
  have isT : ∀ p ∈ cs, p.2 ∈ cs.map (·.2) := fun p hp => List.mem_map.mpr ⟨p, hp, rfl⟩
  have aT : a ∉ cs.map (·.2) := fun z => list_ne_tab (Option.some.inj (hobj.symm.trans (hT a z)))
  obtain ⟨H, eH⟩ : ∃ H, H = lawH K (cs.map (·.2)) a vs ns := ⟨_, rfl⟩
  have atT : ∀ p ∈ cs, H p.2 = some (.tbl #[]) := fun p hp => by rw [eH]; exact lawH_tab (isT p hp)
  have hSq : SqL K H a (ns.map V.int) := by rw [eH]; exact lawH_sq hobj KX aT hints hl
  have hOk : HOk l.prog w H s1.heap := by rw [eH]; exact lawH_ok hT hobj hints hl
  have nsB : ∀ {b : Addr} {m : Str → Option Value}, s1.heap.Ns b m → (hidT s1.heap H).Ns b m := fun {b m} z => by rw [eH]; exact lawH_ns hT hobj z
  have inB : K.In (hidT s1.heap H) := by rw [eH]; exact lawH_in KX hT nT
  have obB : ∀ {b : Addr} {o : Obj}, s1.heap.get? b = some o → o ≠ tabO → o ≠ listO vs → (hidT s1.heap H).get? b = some o := fun {b o} e n1 n2 => by rw [eH]; exact lawH_base hT hobj e n1 n2
  have noG : ∀ {m : Str → Option Value} {b : Addr} {o : Obj}, s1.heap.Ns b m → s1.heap.get? b = some o → ∃ es ep, o.data = .dict es ep := fun {m b o} ⟨o2, es, ep, e, hd, _⟩ e2 => by
    rw [e] at e2
    cases e2
    exact ⟨es, ep, hd⟩
  have mod : L2.Mod K mg (hidT s1.heap H) := ⟨inB, nsB G.T.g, ⟨mb, nsB G.T.b, G.T.builtins⟩, by
    obtain ⟨mc, z1, z2⟩ := G.T.nolimit
    exact ⟨mc, nsB z1, z2⟩⟩
  have tb : ∀ p ∈ cs, TabB (hidT s1.heap H) mg p.1 p.2 := fun p hp => by
    refine ⟨?_, ?_, fun z => ?_⟩
    · obtain ⟨o, us, file, tf, flags, tg, inF, text, tt, e1, r1, r2, rest⟩ := tHd p hp
      exact ⟨o, us, file, tf, flags, tg, inF, text, tt, obB e1 (fun z => by rw [z] at r1; cases r1) (fun z => by rw [z] at r1; exact absurd (Value.type.inj r1) (by decide)), r1, r2, rest⟩
    · obtain ⟨bm, ob, b1, b2, b3, b4, b5, b6⟩ := G.T.bmain
      have pl1 : ob ≠ tabO := fun z => by rw [z] at b6; cases b6
      have pl2 : ob ≠ listO vs := fun z => by rw [z] at b6; cases b6
      refine ⟨bm, ob, b1, b2, fun z => ?_, fun z => ?_, obB b3 pl1 pl2, b4, b5, b6⟩
      · subst z
        obtain ⟨es, ep, y⟩ := noG G.T.g b3
        rw [b6] at y
        cases y
      · subst z
        exact pl1 (Option.some.inj (b3.symm.trans (tEmpty p hp)))
    · have e := tEmpty p hp
      rw [← z] at e
      obtain ⟨es, ep, y⟩ := noG G.T.g e
      cases y
  have e0 : Env0 l.prog w K mg (hidT s1.heap H) callerA [] s1 H := ⟨rfl, mod, fun b o e => of_hidT e, Nat.le_of_eq (hidT_size _ _), trivial, fun b hb => absurd (show b ∈ ([] : List Addr) from hb) (by simp), hOk, .of_eq hgens⟩
  refine codeAny_mono ((hF _ inB (nsB G.T.g) tb).run callerA [] s1 H ⟨[.ref a], []⟩ [.ref a] [.ref a] _ _ rfl hr e0 (bnd s1 (.ref a)) (.cons rfl .nil) (hsp H a ns hlen hbits atT hSq)) fun r s' hq => ?_
  match r, hq with
  | .error e, hq => exact (hCX w H s1 e s' hq).elim
  | .ok .next, hq => exact False.elim hq
  | .ok .brk, hq => exact False.elim hq
  | .ok .cont, hq => exact False.elim hq
  | .ok (.ret u), hq =>
    obtain ⟨v, H', os, bare, un, ok2, rv, ev⟩ := hq
    have ev : v = .bl true := ev
    subst ev
    cases (show u = Value.bool true from rv)
    have grew : ∀ p ∈ cs, ∃ more : Array Value, s'.heap.get? p.2 = some { cls := .none, data := .fields more } := fun p hp => by
      obtain ⟨more, z⟩ := un.tbls p.2 #[] (atT p hp)
      exact ⟨_, ok2 p.2 _ z⟩
    have same : ∀ b o, b ∉ cs.map (·.2) → s1.heap.get? b = some o → s'.heap.get? b = some o := fun b o nb e => by
      rcases lawH_cases (K := K) (TA := cs.map (·.2)) (a := a) (b := b) (vs := vs) (ns := ns) with z | z | ⟨z, _, z3⟩
      · exact un.keep b o e (by rw [eH]; exact z) (fun y => absurd (show b ∈ ([] : List Addr) from y) (by simp)) (by simp)
      · exact absurd z nb
      · have z4 := un.frzs b _ _ (by rw [eH]; exact z3)
        obtain ⟨y, _⟩ := ok2 b _ z4
        subst z
        rw [hobj] at e
        cases e
        exact y
    refine ⟨rfl, ⟨fun b o e => ?_, fun b o e => ?_⟩, os, bare⟩
    · by_cases hb : b ∈ cs.map (·.2)
      · obtain ⟨p, hp, rfl⟩ := List.mem_map.mp hb
        obtain ⟨more, hm⟩ := grew p hp
        rw [tEmpty p hp] at e
        cases e
        exact .inr (.inl ⟨((tHd p hp).tab (tEmpty p hp)).isCodeTable, rfl, #[], more, rfl, by rw [Array.empty_append]; exact hm⟩)
      · exact .inl (same b o hb e)
    · by_cases hb : b ∈ cs.map (·.2)
      · obtain ⟨p, hp, rfl⟩ := List.mem_map.mp hb
        obtain ⟨more, hm⟩ := grew p hp
        exact ⟨_, hm⟩
      · exact ⟨o, same b o hb e⟩
end L2.Z

set_option Elab.async false
set_option linter.all false
set_option maxRecDepth 100000
set_option maxHeartbeats 4000000
namespace L2.Z
open PySem PySem.Spec PyProof.Rows LamX
/-! ### short words for defs that raise, and for lambdas handed on -/
abbrev CXR : Program → World → CXT := L2.CX
def OkkX (P : Program) (w : World) (K : PySem.W.Frag) (mg : Str → Option Value) (base : Heap) (k : Nat) (x : Str) (ps : List Str) (sp : Sp) : Prop :=
  ∃ fd, FnOk P w K mg base (L2.CX P w) k (He.ga K x) fd ps sp ∧ Binds K fd ps [] ∧ mg x = some (.ref (He.ga K x)) ∧ PySem.W.keepIn K (.ref (He.ga K x)) = true
def OkkG (P : Program) (w : World) (K : PySem.W.Frag) (mg : Str → Option Value) (base : Heap) (k : Nat) (x : Str) (ps : List Str) (sp : Sp) : Prop :=
  ∃ fd, FnOkG P w K mg base CX0 k (He.ga K x) fd ps sp ∧ Binds K fd ps [] ∧ mg x = some (.ref (He.ga K x)) ∧ PySem.W.keepIn K (.ref (He.ga K x)) = true
theorem passE0 {X : Cx} : Passes (L2.CX X.prog X.w) X E0 := fun _ _ _ _ _ _ _ h => by
  obtain ⟨_, _, _, _, _, _, _, _, _, _, _, _, z⟩ := h
  exact z.elim
/-- raise C('..') -/
def tRaise0 (C : Addr) (W : WX) : TS := fun _ σ H => W (.ref C) none σ H
theorem ps_raise0 {X : Cx} {C : Addr} {W : WX} {x m : Str} {j : Nat} {p p2 pos pos2 : Pos} (hc : X.calm = true) (tk : Takes X W) (gC : X.mg x = some (.ref C))
    (q : PySem.W.excIn X.K C He.veBase "ValueError.__new__" = true ∧ PySem.W.keepIn X.K (.ref C) = true ∧ PySem.W.subIn X.K (.ref C) (.type "BaseException") = some true ∧ PySem.W.typeIn X.K (.ref C) = some (.type "type")) (hg : Gl X x)
    (hdb : (x == ("__debug__" : Str)) = false) : PS X (.Raise (some (.Call (.Name x p) [.Constant (.str m) j p2] [] pos)) none pos2) (tRaise0 C W) :=
  ps_raise hc tk (pmk_own PySem.F.excBase_ValueError q.1 gC q.2.1 (raises_own q.2.2.1 q.2.2.2) hg hdb)
theorem z_raise1 {fn : Str} {C : Addr} {W : WX} {ta : TA} {D : Ends} {σ : L2.St} {H : Hp} : tRaise1 fn C W ta D σ H = ta σ H fun vs H1 => ∃ v, vs = [v] ∧ ∀ d, H1 d = none → W (.ref C) (some d) σ (upd H1 d (.xd [(fn, v)])) := rfl
theorem z_raise0 {C : Addr} {W : WX} {D : Ends} {σ : L2.St} {H : Hp} : tRaise0 C W D σ H = W (.ref C) none σ H := rfl
theorem codeOf_fd {K : PySem.W.Frag} {f x q : Str} {pa : Arguments} {bo : List Stmt} {sc : Scope} {fd : FuncData} {c : Addr} (F : FunD K x q pa bo sc [] [] (He.ga K f) fd) (hc : fd.code = .ref c) : (He.cT K (f, none)).1 = c := by
  obtain ⟨oc, od, dV, kV, doc, pm, an, cdv, ct, osl, rfl, lk, _⟩ := F.ex
  exact He.codeOf_eq (p := (f, none)) lk hc
theorem call_repV2 {X : Cx} {K : PySem.W.Frag} (e : X.K = K) (hg : X.A.guards = some []) (hu : X.A.units + 80 < cLine) : CallR X (.builtin "repr") (rRepV K) := by
  subst e
  exact call_repV hg hu
/-! what a head tells of a class with a field -/
def exiB (K : PySem.W.Frag) (cn fn : Str) (bmB : List Value) (newId : String) : Bool :=
  PySem.W.excInitIn K (He.ga K cn) bmB newId && PySem.W.excOver K (He.ga K cn) bmB && He.eqO (PySem.W.findIn K (.ref (He.ga K cn)) "__setattr__") (some (some (.builtin "object.__setattr__"))) &&
  He.eqO (PySem.W.findIn K (.ref (He.ga K cn)) "__getattribute__") (some (some (.builtin "BaseException.__getattribute__"))) && He.eqO (PySem.W.findIn K (.ref (He.ga K cn)) "__getattr__") (some none) && He.eqO (PySem.W.findIn K (.ref (He.ga K cn)) fn) (some none) &&
  He.eqO (PySem.W.takerIn K (He.ga K cn) fn) (some none) && He.eqO (PySem.W.findIn K (.ref (He.ga K cn)) "__init__") (some (some (.ref (He.ma K (He.ga K cn) "__init__")))) && decide (PySem.W.typeIn K (.ref (He.ma K (He.ga K cn) "__init__")) = some (.type "function")) &&
  PySem.W.isFn K (.ref (He.ma K (He.ga K cn) "__init__")) && PySem.W.keepIn K (.ref (He.ga K cn)) && decide (PySem.W.subIn K (.ref (He.ga K cn)) (.type "BaseException") = some true) && decide (PySem.W.typeIn K (.ref (He.ga K cn)) = some (.type "type")) && PySem.W.hasDictIn K (He.ga K cn)
theorem exi_ok {K : PySem.W.Frag} {mg : Str → Option Value} {cn fn qi : Str} {bmB : List Value} {newId : String} {pa : Arguments} {bo : List Stmt} {sc : Scope} {p1 p2 q1 q2 q3 q4 : Pos} (gC : mg cn = some (.ref (He.ga K cn))) (b : exiB K cn fn bmB newId = true)
    (F : ∃ fd, FunD K "__init__" qi pa bo sc [] [] (He.ma K (He.ga K cn) "__init__") fd) (hp : pa = PySem.ZExc.iA fn p1 p2) (hb : bo = PySem.ZExc.iB fn q1 q2 q3 q4) (hs : sc = PySem.ZExc.iS fn) :
    PySem.ZExc.ExI K mg cn fn qi bmB newId (He.ga K cn) (He.ma K (He.ga K cn) "__init__") := by
  subst hp hb hs
  obtain ⟨fd, F⟩ := F
  obtain ⟨oc, od, dV, kV, doc, pm, an, cdv, ct, osl, rfl, lk, hcd, hD, _⟩ := F.ex
  have hd : dV = .none := by
    rcases hD with ⟨_, e⟩ | ⟨e, _⟩
    · exact e
    · exact absurd rfl e
  subst hd
  unfold exiB at b
  simp only [Bool.and_eq_true, decide_eq_true_eq] at b
  obtain ⟨⟨⟨⟨⟨⟨⟨⟨⟨⟨⟨⟨⟨b1, b2⟩, b3⟩, b4⟩, b5⟩, b6⟩, b7⟩, b8⟩, b9⟩, b10⟩, b11⟩, b12⟩, b13⟩, b14⟩ := b
  exact ⟨gC, b1, b2, He.eqO_ok b3, He.eqO_ok b4, He.eqO_ok b5, He.eqO_ok b6, He.eqO_ok b7, He.eqO_ok b8, b9, b10, b11, b12, b13, b14, ⟨oc, od, kV, doc, pm, an, cdv, ct, osl, p1, p2, q1, q2, q3, q4, lk, hcd⟩⟩
def clsBody : Stmt → List Stmt
  | .ClassDef (body := b) .. => b
  | _ => []
theorem hu80_of {k : Nat} {A : Around} (r : Room k A) : A.units + 80 < cLine := by have := r.un; omega
section
variable {X : Cx}
/-- x(lambda: body), x as it stands behind the top -/
theorem pe_met {T : List (Addr × Str)} {TT : (XK → Hp → VK → Prop) → Hp → VK → Prop} {x a : Str} {c P : Addr} {k : Nat} {pg : Arguments} {bg : List Stmt} {sg : Scope} {fd : FuncData} {Ng : List Str}
    {params : Arguments} {body : Expr} {scope : Scope} {t : XK → TE} {p lpos pos : Pos} (F : FunD X.K x x pg bg sg [] [] (He.ga X.K x) fd) (hm : X.mg x = some (.ref (He.ga X.K x))) (hb : L2.Binds X.K fd [a] []) (Sg : FnScope Ng [a] sg) (hNg : Ng[0]? = some a) (hva : Vis sg a) (hr : Room (k + 2) X.A)
    (hG : ∀ cdv : Value, Room (k + 1) (X.A.deeper (envOfC x sg 0 (He.ga X.K x) cdv)) → GivesTo X Ng x sg (He.ga X.K x) cdv bg a (X.env.qual ++ "<lambda>") TT)
    (hg : Gl X x) (TB : TabB X.base X.mg c P) (hcode : X.env.code = .ref c) (hmT : (P, X.env.qual ++ "<lambda>") ∈ T) (hu : ∀ p ∈ T, p.1 = P → p.2 = X.env.qual ++ "<lambda>") (L : LamS X.env.scope scope) (hdef : defaultsOf params X.env = ([], []))
    (hbind : ∀ (q : Str) (cl : List (Str × Addr)) (pm cv ctv : Value), bindArgs (PySem.W.kla_fn "<lambda>" q params body scope cl pm cv ctv) ⟨[], []⟩ = pure [])
    (hbody : ∀ (A : Around) (outer : List Env) (s : Shared) (H : Hp) (E : XK) (f c' : Addr), Room k (A.deeper (lamEnv X scope s.heap.objs.size f c')) → PE (lamCx X A outer s H E scope f c') body (t E))
    (hdb : (x == ("__debug__" : Str)) = false := by decide) (hd : (a == ("__debug__" : Str)) = false := by decide) (hcd : (a == ("__classdict__" : Str)) = false := by decide) :
    PE X (.Call (.Name x p) [.Lambda params body scope lpos] [] pos) (tLam T TT t) := by
  obtain ⟨oc, od, dV, kV, doc, pm, an, cdv, ct, osl, rfl, lk, hcg, _, _⟩ := F.ex
  exact pe_lamcall hg hm F.kp lk hcg hb Sg hNg hva (hG cdv (hr.deeper _)) TB hcode hmT hu hr L hdef hbind hbody hdb hd hcd
end
end L2.Z

set_option Elab.async false
set_option linter.all false
set_option maxRecDepth 100000
set_option maxHeartbeats 4000000
namespace L2.Z
open PySem PySem.Spec PyProof.Rows LamX
theorem z_lam {T : List (Addr × Str)} {TT : (XK → Hp → VK → Prop) → Hp → VK → Prop} {t : XK → TE} {σ : L2.St} {H : Hp} {Q : VK} : tLam T TT t σ H Q = (Tabs T H ∧ ∀ H1, ExtN H H1 → Tabs T H1 → TT (fun E H' Q' => t E σ H' Q') H1 Q) := rfl
/-! ### what stays, but for the dice and the tables -/
def KN (no : List Addr) (H H' : Hp) : Prop := ∀ b o, b ∉ no → H b = some o → (∀ ps, o ≠ .tbl ps) → H' b = some o
theorem KN.refl (no : List Addr) (H : Hp) : KN no H H := fun _ _ _ h _ => h
theorem KN.trans {no : List Addr} {H H1 H2 : Hp} (a : KN no H H1) (b : KN no H1 H2) : KN no H H2 := fun c o n h t => b c o n (a c o n h t) t
theorem KN.ext {no : List Addr} {H H1 : Hp} (a : ExtN H H1) : KN no H H1 := fun c o _ h t => a c o h t
theorem KN.same {no : List Addr} {H H1 : Hp} (a : Same H H1) : KN no H H1 := fun c o _ h _ => a c o h
theorem KN.new {no : List Addr} {p : Addr} {H : Hp} {o : HO} (n : H p = none) : KN no H (upd H p o) := fun b u _ h _ => by rw [upd_ne (ne_of_none h n)]; exact h
theorem ExtN.same {H H1 : Hp} (a : Same H H1) : ExtN H H1 := fun c o h _ => a c o h
/-! plain data, none of it at no -/
mutual
def Pl (H : Hp) (no : List Addr) : PyData → V → Prop
  | .none, v => v = .non
  | .bool b, v => v = .bl b
  | .int i, v => v = .int i
  | .str x, v => v = .str x
  | .list ds, v => ∃ a xs, v = .ref a ∧ a ∉ no ∧ H a = some (.lst xs) ∧ PlAll H no ds xs
  | .tuple ds, v => ∃ a xs, v = .ref a ∧ a ∉ no ∧ H a = some (.tup xs) ∧ PlAll H no ds xs
  | .dict kvs, v => kvs = [] ∧ ∃ a, v = .ref a ∧ a ∉ no ∧ H a = some (.dK [])
def PlAll (H : Hp) (no : List Addr) : List PyData → List V → Prop
  | [], xs => xs = []
  | d :: ds, xs => ∃ y ys, xs = y :: ys ∧ Pl H no d y ∧ PlAll H no ds ys
end
mutual
theorem Pl.mono {H H' : Hp} {no : List Addr} (k : KN no H H') : ∀ (d : PyData) (v : V), Pl H no d v → Pl H' no d v
  | .none, _, h => by rw [Pl] at h ⊢; exact h
  | .bool b, _, h => by rw [Pl] at h ⊢; exact h
  | .int i, _, h => by rw [Pl] at h ⊢; exact h
  | .str x, _, h => by rw [Pl] at h ⊢; exact h
  | .list ds, _, h => by
    rw [Pl] at h ⊢
    obtain ⟨a, xs, e, n, q, r⟩ := h
    exact ⟨a, xs, e, n, k a _ n q (fun _ z => by cases z), PlAll.mono k ds xs r⟩
  | .tuple ds, _, h => by
    rw [Pl] at h ⊢
    obtain ⟨a, xs, e, n, q, r⟩ := h
    exact ⟨a, xs, e, n, k a _ n q (fun _ z => by cases z), PlAll.mono k ds xs r⟩
  | .dict kvs, _, h => by
    rw [Pl] at h ⊢
    obtain ⟨e0, a, e, n, q⟩ := h
    exact ⟨e0, a, e, n, k a _ n q (fun _ z => by cases z)⟩
theorem PlAll.mono {H H' : Hp} {no : List Addr} (k : KN no H H') : ∀ (ds : List PyData) (xs : List V), PlAll H no ds xs → PlAll H' no ds xs
  | [], _, h => by rw [PlAll] at h ⊢; exact h
  | d :: ds, _, h => by
    rw [PlAll] at h ⊢
    obtain ⟨y, ys, e, a, b⟩ := h
    exact ⟨y, ys, e, Pl.mono k d y a, PlAll.mono k ds ys b⟩
end
mutual
theorem Pl.fresh {H : Hp} {no : List Addr} {L : Addr} (n : H L = none) : ∀ (d : PyData) (v : V), Pl H no d v → Pl H (L :: no) d v
  | .none, _, h => by rw [Pl] at h ⊢; exact h
  | .bool b, _, h => by rw [Pl] at h ⊢; exact h
  | .int i, _, h => by rw [Pl] at h ⊢; exact h
  | .str x, _, h => by rw [Pl] at h ⊢; exact h
  | .list ds, _, h => by
    rw [Pl] at h ⊢
    obtain ⟨a, xs, e, m, q, r⟩ := h
    exact ⟨a, xs, e, fun z => (List.mem_cons.mp z).elim (fun y => ne_of_none q n y) m, q, PlAll.fresh n ds xs r⟩
  | .tuple ds, _, h => by
    rw [Pl] at h ⊢
    obtain ⟨a, xs, e, m, q, r⟩ := h
    exact ⟨a, xs, e, fun z => (List.mem_cons.mp z).elim (fun y => ne_of_none q n y) m, q, PlAll.fresh n ds xs r⟩
  | .dict kvs, _, h => by
    rw [Pl] at h ⊢
    obtain ⟨e0, a, e, m, q⟩ := h
    exact ⟨e0, a, e, fun z => (List.mem_cons.mp z).elim (fun y => ne_of_none q n y) m, q⟩
theorem PlAll.fresh {H : Hp} {no : List Addr} {L : Addr} (n : H L = none) : ∀ (ds : List PyData) (xs : List V), PlAll H no ds xs → PlAll H (L :: no) ds xs
  | [], _, h => by rw [PlAll] at h ⊢; exact h
  | d :: ds, _, h => by
    rw [PlAll] at h ⊢
    obtain ⟨y, ys, e, a, b⟩ := h
    exact ⟨y, ys, e, Pl.fresh n d y a, PlAll.fresh n ds ys b⟩
end
mutual
theorem Pl.perm {H : Hp} {no no' : List Addr} (n : ∀ b, b ∈ no' → b ∈ no) : ∀ {d : PyData} {v : V}, Pl H no d v → Pl H no' d v
  | .none, _, h => by rw [Pl] at h ⊢; exact h
  | .bool b, _, h => by rw [Pl] at h ⊢; exact h
  | .int i, _, h => by rw [Pl] at h ⊢; exact h
  | .str x, _, h => by rw [Pl] at h ⊢; exact h
  | .list ds, _, h => by
    rw [Pl] at h ⊢
    obtain ⟨a, xs, e, m, q, r⟩ := h
    exact ⟨a, xs, e, fun z => m (n a z), q, PlAll.perm n r⟩
  | .tuple ds, _, h => by
    rw [Pl] at h ⊢
    obtain ⟨a, xs, e, m, q, r⟩ := h
    exact ⟨a, xs, e, fun z => m (n a z), q, PlAll.perm n r⟩
  | .dict kvs, _, h => by
    rw [Pl] at h ⊢
    obtain ⟨e0, a, e, m, q⟩ := h
    exact ⟨e0, a, e, fun z => m (n a z), q⟩
theorem PlAll.perm {H : Hp} {no no' : List Addr} (n : ∀ b, b ∈ no' → b ∈ no) : ∀ {ds : List PyData} {xs : List V}, PlAll H no ds xs → PlAll H no' ds xs
  | [], _, h => by rw [PlAll] at h ⊢; exact h
  | d :: ds, _, h => by
    rw [PlAll] at h ⊢
    obtain ⟨y, ys, e, a, b⟩ := h
    exact ⟨y, ys, e, Pl.perm n a, PlAll.perm n b⟩
end
mutual
theorem Pl.dp {K : PySem.W.Frag} {H : Hp} {no : List Addr} : ∀ (d : PyData) (v : V), Pl H no d v → d.hasDict = false → Dp K H v d
  | .none, _, h, _ => by rw [Pl] at h; subst h; exact .non
  | .bool b, _, h, _ => by rw [Pl] at h; subst h; exact .bl b
  | .int i, _, h, _ => by rw [Pl] at h; subst h; exact .int i
  | .str x, _, h, _ => by rw [Pl] at h; subst h; exact .str x
  | .list ds, _, h, n => by
    rw [Pl] at h
    obtain ⟨a, xs, rfl, _, q, r⟩ := h
    exact .lst (.inl (.inl q)) (PlAll.dp ds xs r (by simpa [PyData.hasDict] using n))
  | .tuple ds, _, h, n => by
    rw [Pl] at h
    obtain ⟨a, xs, rfl, _, q, r⟩ := h
    exact .tup (.inl (.inl q)) (PlAll.dp ds xs r (by simpa [PyData.hasDict] using n))
  | .dict kvs, _, h, n => by simp [PyData.hasDict] at n
theorem PlAll.dp {K : PySem.W.Frag} {H : Hp} {no : List Addr} : ∀ (ds : List PyData) (xs : List V), PlAll H no ds xs → PyData.hasDictAll ds = false → DpAll K H xs ds
  | [], _, h, _ => by rw [PlAll] at h; subst h; exact .nil
  | d :: ds, _, h, n => by
    rw [PlAll] at h
    obtain ⟨y, ys, rfl, a, b⟩ := h
    simp only [PyData.hasDictAll, Bool.or_eq_false_iff] at n
    exact .cons (Pl.dp d y a n.1) (PlAll.dp ds ys b n.2)
end
/-- may be shown -/
def repOk (d : PyData) : Bool := d.showable && (!d.hasDict || (match d with | .dict [] => true | _ => false)) && decide (d.depth ≤ 64) && decide (d.shown.length ≤ sizeLine) && PyData.strOk d.shown
theorem Pl.rep {K : PySem.W.Frag} {H : Hp} {no : List Addr} {d : PyData} {v : V} (p : Pl H no d v) (r : repOk d = true) : RepV K H v d.shown := by
  unfold repOk at r
  simp only [Bool.and_eq_true, Bool.or_eq_true, Bool.not_eq_true', decide_eq_true_eq] at r
  obtain ⟨⟨⟨⟨r1, r2⟩, r3⟩, r4⟩, _⟩ := r
  rcases r2 with h | h
  · exact .inl ⟨d, Pl.dp d v p h, r1, h, r3, r4, rfl⟩
  · match d, h, p with
    | .dict [], _, p =>
      rw [Pl] at p
      obtain ⟨_, a, rfl, _, q⟩ := p
      exact .inr ⟨a, rfl, q, rfl⟩
theorem repOk_str {d : PyData} (r : repOk d = true) : PyData.strOk d.shown = true := by
  unfold repOk at r
  exact (Bool.and_eq_true_iff.mp r).2
/-! lists of tuples of texts -/
def TS1 (H : Hp) : List V → List (List Str) → Prop := Paired fun v ss => ∃ p, v = V.ref p ∧ H p = some (.tup (ss.map V.str)) ∧ ss.all PyData.strOk = true
def Told (H : Hp) (L : Addr) (ws : List (List Str)) : Prop := ∃ xs, H L = some (.lst xs) ∧ TS1 H xs ws
theorem TS1.mono {H H' : Hp} {xs : List V} {ws : List (List Str)} (r : TS1 H xs ws) (h : ∀ p ys, H p = some (.tup ys) → H' p = some (.tup ys)) : TS1 H' xs ws := by
  unfold TS1 at r ⊢
  induction r with
  | nil => exact .nil
  | cons a _ ih =>
    obtain ⟨p, e, q, w⟩ := a
    exact .cons ⟨p, e, h p _ q, w⟩ ih
theorem TS1.len {H : Hp} {xs : List V} {ws : List (List Str)} (r : TS1 H xs ws) : xs.length = ws.length := Paired.length r
theorem TS1.app {H : Hp} {xs ys : List V} {ws us : List (List Str)} (r : TS1 H xs ws) (q : TS1 H ys us) : TS1 H (xs ++ ys) (ws ++ us) := by
  unfold TS1 at r q ⊢
  induction r with
  | nil => exact q
  | cons a _ ih => exact .cons a ih
theorem Told.ext {H H' : Hp} {L : Addr} {ws : List (List Str)} (t : Told H L ws) (e : ExtN H H') : Told H' L ws := by
  obtain ⟨xs, h, r⟩ := t
  exact ⟨xs, e L _ h (fun _ z => by cases z), r.mono fun p ys q => e p _ q (fun _ z => by cases z)⟩
theorem Told.same {H H' : Hp} {L : Addr} {ws : List (List Str)} (t : Told H L ws) (e : Same H H') : Told H' L ws := t.ext (ExtN.same e)
/-- one more -/
theorem Told.put {H : Hp} {L p : Addr} {xs : List V} {ws : List (List Str)} {ss : List Str} (h : H L = some (.lst xs)) (r : TS1 H xs ws) (hp : H p = some (.tup (ss.map V.str))) (hw : ss.all PyData.strOk = true) : Told (upd H L (.lst (xs ++ [.ref p]))) L (ws ++ [ss]) := by
  have k : ∀ q ys, H q = some (.tup ys) → upd H L (.lst (xs ++ [.ref p])) q = some (.tup ys) := fun q ys e => by
    rw [upd_ne (fun z => by subst z; rw [h] at e; cases e)]
    exact e
  exact ⟨_, upd_same, (r.mono k).app (.cons ⟨p, rfl, k _ _ hp, hw⟩ .nil)⟩
def tsD (ws : List (List Str)) : List PyData := ws.map fun ss => .tuple (ss.map PyData.str)
theorem strs_dp {K : PySem.W.Frag} {H : Hp} : ∀ ss : List Str, DpAll K H (ss.map V.str) (ss.map PyData.str)
  | [] => .nil
  | s :: ss => .cons (.str s) (strs_dp ss)
theorem TS1.dp {K : PySem.W.Frag} {H : Hp} {xs : List V} {ws : List (List Str)} (r : TS1 H xs ws) : DpAll K H xs (tsD ws) := by
  unfold TS1 at r
  induction r with
  | nil => exact .nil
  | cons a _ ih =>
    obtain ⟨p, rfl, q, _⟩ := a
    exact .cons (.tup (.inl (.inl q)) (strs_dp _)) ih
theorem lay_strs : ∀ ss : List Str, ss.all PyData.strOk = true → PyData.canLayAll0 (ss.map PyData.str) = true
  | [], _ => by rw [List.map_nil, PyData.canLayAll0]
  | s :: ss, h => by
    simp only [List.all_cons, Bool.and_eq_true] at h
    rw [List.map_cons, PyData.canLayAll0, PyData.canLay0, h.1, lay_strs ss h.2]
    rfl
theorem depth_strs : ∀ ss : List Str, PyData.depthAll (ss.map PyData.str) = 0
  | [] => by rw [List.map_nil, PyData.depthAll]
  | s :: ss => by rw [List.map_cons, PyData.depthAll, PyData.depth, depth_strs ss]; rfl
theorem TS1.shaped {H : Hp} {xs : List V} {ws : List (List Str)} (r : TS1 H xs ws) : PyData.canLayAll0 (tsD ws) = true ∧ PyData.depthAll (tsD ws) ≤ 1 := by
  unfold TS1 at r
  unfold tsD
  induction r with
  | nil => exact ⟨by rw [List.map_nil, PyData.canLayAll0], by rw [List.map_nil, PyData.depthAll]; omega⟩
  | cons a _ ih =>
    obtain ⟨p, rfl, q, w⟩ := a
    refine ⟨by rw [List.map_cons, PyData.canLayAll0, PyData.canLay0, lay_strs _ w, ih.1]; rfl, ?_⟩
    rw [List.map_cons, PyData.depthAll, PyData.depth, depth_strs]
    exact Nat.max_le.mpr ⟨by omega, ih.2⟩
theorem Told.shaped {H : Hp} {L : Addr} {ws : List (List Str)} (t : Told H L ws) : SeqAt.shaped (.list (tsD ws)) = true := by
  obtain ⟨xs, _, r⟩ := t
  obtain ⟨a, b⟩ := r.shaped
  unfold SeqAt.shaped
  rw [PyData.canLay0, PyData.depth, a]
  simp
  omega
theorem Told.dp {K : PySem.W.Frag} {H : Hp} {L : Addr} {ws : List (List Str)} (t : Told H L ws) : Dp K H (.ref L) (.list (tsD ws)) := by
  obtain ⟨xs, h, r⟩ := t
  exact .lst (.inl (.inl h)) r.dp
theorem KN.put {no : List Addr} {L : Addr} {H : Hp} {o : HO} (h : L ∈ no) : KN no H (upd H L o) := fun b u n e _ => by
  have hb : b ≠ L := fun z => by
    subst z
    exact n h
  rw [upd_ne hb]
  exact e
theorem KN.less {no no' : List Addr} {H H' : Hp} (k : KN no H H') (h : ∀ b, b ∈ no → b ∈ no') : KN no' H H' := fun b o n e t => k b o (fun z => n (h b z)) e t
theorem KN.drop {no : List Addr} {L : Addr} {H0 H H' : Hp} (k0 : KN no H0 H) (n : H0 L = none) (k : KN (L :: no) H H') : KN no H0 H' := fun b o m e t => k b o (fun z => (List.mem_cons.mp z).elim (fun y => ne_of_none e n y) m) (k0 b o m e t) t
theorem Tabs.keep {T : List (Addr × Str)} {D : Addr} {H H' : Hp} {xs : List V} (t : Tabs T H) (hD : H D = some (.lst xs)) (k : ∀ b o, b ≠ D → H b = some o → H' b = some o) : Tabs T H' := fun p hp => by
  obtain ⟨ps, h1, h2, h3⟩ := t p hp
  have ne : ∀ {b : Addr} {o : HO}, H b = some o → o ≠ .lst xs → b ≠ D := fun {b o} e n z => by
    subst z
    rw [hD] at e
    exact n (Option.some.inj e).symm
  refine ⟨ps, k _ _ (ne h1 (fun z => by cases z)) h1, h2, fun pos cv hc => ?_⟩
  obtain ⟨c, e1, e2⟩ := h3 pos cv hc
  refine ⟨c, e1, k _ _ (ne e2 (fun z => ?_)) e2⟩
  unfold CodeO at z
  cases z
end L2.Z


namespace L2.Z
open PySem PySem.Spec PyProof.Rows
local macro_rules | `(tactic| walk_at "z") => `(tactic| (try simp only [↓z_var0, ↓z_varS, ↓z_C, ↓z_op, ↓z_un, ↓z_I0, ↓z_I, ↓z_U, ↓z_eqI, ↓z_neI, ↓z_bl, ↓z_test, ↓z_B, ↓z_and, ↓z_or, ↓z_not, ↓z_andV, ↓z_orV, ↓z_notV, ↓z_if, ↓z_ifS, ↓z_seq, ↓z_next, ↓z_ret, ↓z_retN, ↓z_asg, ↓z_gname, ↓z_drop, ↓z_nil, ↓z_cons, ↓z_call, ↓z_CB, ↓z_par, ↓z_pair, ↓z_aug0, ↓z_ipI, ↓z_abs, ↓z_max, ↓z_min, ↓z_int, ↓z_intB, ↓z_gcd, ↓z_tup, ↓z_lst, ↓z_chain, z_some, z_bl, z_pair, decide_eq_true_eq, Bool.not_eq_true', decide_eq_false_iff_not, List.set_cons_zero, List.set_cons_succ, List.getElem?_cons_zero, List.getElem?_cons_succ, Bool.false_eq_true, Bool.true_eq_false, if_true, if_false, ↓reduceIte, ↓z_isN, ↓z_gtup, ↓z_gcons, ↓z_gnil, ↓z_yes, ↓z_wipe0, ↓z_wipeS, ↓z_itup, ↓z_ilist, ↓z_irng1, ↓z_irng2, ↓z_lc, ↓z_lc2, ↓z_izip, ↓z_ient, ↓z_chain3, ↓z_inT, ↓z_raise1, ↓z_raise0, ↓z_lam, ↓z_par3, z_trip, ↓z_rg1, ↓z_rg2, z_ii, z_i1, ↓z_lstrg, ↓z_disp, ↓z_tp0, ↓z_tpS, ↓z_dnew, ↓z_din, ↓z_tru, ↓z_dget, ↓z_dget2, ↓z_dput, ↓z_cont, ↓z_sl, ↓z_part, ↓z_nopart, ↓z_strI, ↓z_gsub, ↓z_for, true_and, and_true, decide_true, decide_false, not_true_eq_false, not_false_eq_true, ↓z_bm, ↓z_bm0, ↓z_notN, z_dn1, z_dn2, z_dn3, z_dn4, z_dn5, Nat.zero_add, Nat.reduceAdd, Nat.reduceSub, List.replicate_succ, List.replicate_zero, start, List.map_cons, List.map_nil, List.length_cons, List.length_nil, List.cons_append, List.nil_append]))
def top (i : Nat) : Stmt := PySem.Challenge.pw_zeroorone_k07_errors_of_primes.main.body.getD i (.Pass ⟨0, 0, 0, 0⟩)
abbrev s_is_int : Stmt := top 6
abbrev s_has_no_parts : Stmt := top 8
abbrev s_power_modulo : Stmt := top 9
abbrev s_integer_power : Stmt := top 10
abbrev s_least_divisor : Stmt := top 13
abbrev s_prime_powers : Stmt := top 20
abbrev s_is_below : Stmt := top 7
abbrev s_check_between : Stmt := top 15
abbrev s_least_maker_by : Stmt := top 21
abbrev s_count_units : Stmt := top 26
abbrev s_check_integer : Stmt := top 14
abbrev s_is_prime : Stmt := top 18
abbrev s_next_prime : Stmt := top 19
abbrev s_prime_paper : Stmt := top 22
abbrev s_divisors : Stmt := top 25
abbrev s_units_number : Stmt := top 27
abbrev s_least_maker : Stmt := top 29
abbrev s_prime_answer : Stmt := top 23
abbrev s_prime_parts_answer : Stmt := top 24
abbrev s_order_of : Stmt := top 28
abbrev s__law_dice : Stmt := top 31
abbrev s__law_roll : Stmt := top 32
abbrev s__law_pick : Stmt := top 33
abbrev s__law_right : Stmt := top 35
abbrev s_law : Stmt := top 36
abbrev s__law_met : Stmt := top 34
def bm_IndexError : List Value := [.type "IndexError", .type "LookupError", .type "Exception", .type "BaseException", .type "object"]
structure Tx (K : PySem.W.Frag) (mg : Str → Option Value) : Prop where
  f_is_int : ∃ fd, FunD K "is_int" "is_int" (defArgs s_is_int) (defBody s_is_int) (defScope s_is_int) [] [] (He.ga K "is_int") fd
  g_is_int : mg "is_int" = some (.ref (He.ga K "is_int"))
  f_has_no_parts : ∃ fd, FunD K "has_no_parts" "has_no_parts" (defArgs s_has_no_parts) (defBody s_has_no_parts) (defScope s_has_no_parts) [] [] (He.ga K "has_no_parts") fd
  g_has_no_parts : mg "has_no_parts" = some (.ref (He.ga K "has_no_parts"))
  f_power_modulo : ∃ fd, FunD K "power_modulo" "power_modulo" (defArgs s_power_modulo) (defBody s_power_modulo) (defScope s_power_modulo) [] [] (He.ga K "power_modulo") fd
  g_power_modulo : mg "power_modulo" = some (.ref (He.ga K "power_modulo"))
  f_integer_power : ∃ fd, FunD K "integer_power" "integer_power" (defArgs s_integer_power) (defBody s_integer_power) (defScope s_integer_power) [] [] (He.ga K "integer_power") fd
  g_integer_power : mg "integer_power" = some (.ref (He.ga K "integer_power"))
  f_least_divisor : ∃ fd, FunD K "least_divisor" "least_divisor" (defArgs s_least_divisor) (defBody s_least_divisor) (defScope s_least_divisor) [] [] (He.ga K "least_divisor") fd
  g_least_divisor : mg "least_divisor" = some (.ref (He.ga K "least_divisor"))
  f_prime_powers : ∃ fd, FunD K "prime_powers" "prime_powers" (defArgs s_prime_powers) (defBody s_prime_powers) (defScope s_prime_powers) [] [] (He.ga K "prime_powers") fd
  g_prime_powers : mg "prime_powers" = some (.ref (He.ga K "prime_powers"))
  f_is_below : ∃ fd, FunD K "is_below" "is_below" (defArgs s_is_below) (defBody s_is_below) (defScope s_is_below) [] [] (He.ga K "is_below") fd
  g_is_below : mg "is_below" = some (.ref (He.ga K "is_below"))
  f_check_between : ∃ fd, FunD K "check_between" "check_between" (defArgs s_check_between) (defBody s_check_between) (defScope s_check_between) [] [] (He.ga K "check_between") fd
  g_check_between : mg "check_between" = some (.ref (He.ga K "check_between"))
  f_least_maker_by : ∃ fd, FunD K "least_maker_by" "least_maker_by" (defArgs s_least_maker_by) (defBody s_least_maker_by) (defScope s_least_maker_by) [] [] (He.ga K "least_maker_by") fd
  g_least_maker_by : mg "least_maker_by" = some (.ref (He.ga K "least_maker_by"))
  f_count_units : ∃ fd, FunD K "count_units" "count_units" (defArgs s_count_units) (defBody s_count_units) (defScope s_count_units) [] [] (He.ga K "count_units") fd
  g_count_units : mg "count_units" = some (.ref (He.ga K "count_units"))
  f_check_integer : ∃ fd, FunD K "check_integer" "check_integer" (defArgs s_check_integer) (defBody s_check_integer) (defScope s_check_integer) [] [] (He.ga K "check_integer") fd
  g_check_integer : mg "check_integer" = some (.ref (He.ga K "check_integer"))
  f_is_prime : ∃ fd, FunD K "is_prime" "is_prime" (defArgs s_is_prime) (defBody s_is_prime) (defScope s_is_prime) [] [] (He.ga K "is_prime") fd
  g_is_prime : mg "is_prime" = some (.ref (He.ga K "is_prime"))
  f_next_prime : ∃ fd, FunD K "next_prime" "next_prime" (defArgs s_next_prime) (defBody s_next_prime) (defScope s_next_prime) [] [] (He.ga K "next_prime") fd
  g_next_prime : mg "next_prime" = some (.ref (He.ga K "next_prime"))
  f_prime_paper : ∃ fd, FunD K "prime_paper" "prime_paper" (defArgs s_prime_paper) (defBody s_prime_paper) (defScope s_prime_paper) [] [] (He.ga K "prime_paper") fd
  g_prime_paper : mg "prime_paper" = some (.ref (He.ga K "prime_paper"))
  f_divisors : ∃ fd, FunD K "divisors" "divisors" (defArgs s_divisors) (defBody s_divisors) (defScope s_divisors) [] [] (He.ga K "divisors") fd
  g_divisors : mg "divisors" = some (.ref (He.ga K "divisors"))
  f_units_number : ∃ fd, FunD K "units_number" "units_number" (defArgs s_units_number) (defBody s_units_number) (defScope s_units_number) [] [] (He.ga K "units_number") fd
  g_units_number : mg "units_number" = some (.ref (He.ga K "units_number"))
  f_least_maker : ∃ fd, FunD K "least_maker" "least_maker" (defArgs s_least_maker) (defBody s_least_maker) (defScope s_least_maker) [] [] (He.ga K "least_maker") fd
  g_least_maker : mg "least_maker" = some (.ref (He.ga K "least_maker"))
  f_prime_answer : ∃ fd, FunD K "prime_answer" "prime_answer" (defArgs s_prime_answer) (defBody s_prime_answer) (defScope s_prime_answer) [] [] (He.ga K "prime_answer") fd
  g_prime_answer : mg "prime_answer" = some (.ref (He.ga K "prime_answer"))
  f_prime_parts_answer : ∃ fd, FunD K "prime_parts_answer" "prime_parts_answer" (defArgs s_prime_parts_answer) (defBody s_prime_parts_answer) (defScope s_prime_parts_answer) [] [] (He.ga K "prime_parts_answer") fd
  g_prime_parts_answer : mg "prime_parts_answer" = some (.ref (He.ga K "prime_parts_answer"))
  f_order_of : ∃ fd, FunD K "order_of" "order_of" (defArgs s_order_of) (defBody s_order_of) (defScope s_order_of) [] [] (He.ga K "order_of") fd
  g_order_of : mg "order_of" = some (.ref (He.ga K "order_of"))
  f__law_dice : ∃ fd, FunD K "_law_dice" "_law_dice" (defArgs s__law_dice) (defBody s__law_dice) (defScope s__law_dice) [] [] (He.ga K "_law_dice") fd
  g__law_dice : mg "_law_dice" = some (.ref (He.ga K "_law_dice"))
  f__law_roll : ∃ fd, FunD K "_law_roll" "_law_roll" (defArgs s__law_roll) (defBody s__law_roll) (defScope s__law_roll) [] [] (He.ga K "_law_roll") fd
  g__law_roll : mg "_law_roll" = some (.ref (He.ga K "_law_roll"))
  f__law_pick : ∃ fd, FunD K "_law_pick" "_law_pick" (defArgs s__law_pick) (defBody s__law_pick) (defScope s__law_pick) [] [] (He.ga K "_law_pick") fd
  g__law_pick : mg "_law_pick" = some (.ref (He.ga K "_law_pick"))
  f__law_right : ∃ fd, FunD K "_law_right" "_law_right" (defArgs s__law_right) (defBody s__law_right) (defScope s__law_right) [] [] (He.ga K "_law_right") fd
  g__law_right : mg "_law_right" = some (.ref (He.ga K "_law_right"))
  f_law : ∃ fd, FunD K "law" "law" (defArgs s_law) (defBody s_law) (defScope s_law) [] [] (He.ga K "law") fd
  g_law : mg "law" = some (.ref (He.ga K "law"))
  c_SIXTY_DIGITS : ∃ t, mg "SIXTY_DIGITS" = some (.int 1000000000000000000000000000000000000000000000000000000000000 t)
  c_MOST : ∃ t, mg "MOST" = some (.int 100000000 t)
  n_abs : mg "abs" = none
  n_bool : mg "bool" = none
  n_int : mg "int" = none
  n_isinstance : mg "isinstance" = none
  n_len : mg "len" = none
  n_max : mg "max" = none
  n_min : mg "min" = none
  n_range : mg "range" = none
  n_repr : mg "repr" = none
  n_sorted : mg "sorted" = none
  n_tuple : mg "tuple" = none
  b_gcd : mg "gcd" = some (.builtin "math.gcd")
  x_InvalidNumber : PySem.ZExc.ExI K mg "InvalidNumber" "given" "InvalidNumber.__init__" bm_IndexError "IndexError.__new__" (He.ga K "InvalidNumber") (He.ma K (He.ga K "InvalidNumber") "__init__")
  e_InvalidOperation : mg "InvalidOperation" = some (.ref (He.ga K "InvalidOperation")) ∧ (PySem.W.excIn K (He.ga K "InvalidOperation") He.veBase "ValueError.__new__" = true ∧ PySem.W.keepIn K (.ref (He.ga K "InvalidOperation")) = true ∧ PySem.W.subIn K (.ref (He.ga K "InvalidOperation")) (.type "BaseException") = some true ∧ PySem.W.typeIn K (.ref (He.ga K "InvalidOperation")) = some (.type "type"))
  m_InvalidNumber_InvalidNumber : PySem.W.exmOne K (.ref (He.ga K "InvalidNumber")) (.ref (He.ga K "InvalidNumber")) = some true
  m_InvalidNumber_InvalidOperation : PySem.W.exmOne K (.ref (He.ga K "InvalidNumber")) (.ref (He.ga K "InvalidOperation")) = some false
  m_InvalidOperation_InvalidNumber : PySem.W.exmOne K (.ref (He.ga K "InvalidOperation")) (.ref (He.ga K "InvalidNumber")) = some false
  m_InvalidOperation_InvalidOperation : PySem.W.exmOne K (.ref (He.ga K "InvalidOperation")) (.ref (He.ga K "InvalidOperation")) = some true
  f__law_met : ∃ fd, FunD K "_law_met" "_law_met" (defArgs s__law_met) (defBody s__law_met) (defScope s__law_met) [] [] (He.ga K "_law_met") fd
  g__law_met : mg "_law_met" = some (.ref (He.ga K "_law_met"))
  dis : (He.cT K ("_law_right", none)).2 ≠ (He.cT K ("law", none)).2
def tfs : List He.Defn := [("_law_right", none), ("law", none)]
def Ts (K : PySem.W.Frag) : List (Addr × Str) := [((He.cT K ("_law_right", none)).2, ("_law_right" : Str) ++ ".<locals>." ++ "<lambda>"), ((He.cT K ("law", none)).2, ("law" : Str) ++ ".<locals>." ++ "<lambda>")]
theorem hu__law_right {K : PySem.W.Frag} (dis : (He.cT K ("_law_right", none)).2 ≠ (He.cT K ("law", none)).2) : ∀ p ∈ Ts K, p.1 = (He.cT K ("_law_right", none)).2 → p.2 = ("_law_right" : Str) ++ ".<locals>." ++ "<lambda>" := by
  intro p hp e
  simp only [Ts, List.mem_cons, List.not_mem_nil, or_false] at hp
  rcases hp with rfl | rfl
  · rfl
  · exact absurd e (by simp only at dis ⊢; first | exact dis | exact Ne.symm dis | (intro z; simp_all))
theorem hu_law {K : PySem.W.Frag} (dis : (He.cT K ("_law_right", none)).2 ≠ (He.cT K ("law", none)).2) : ∀ p ∈ Ts K, p.1 = (He.cT K ("law", none)).2 → p.2 = ("law" : Str) ++ ".<locals>." ++ "<lambda>" := by
  intro p hp e
  simp only [Ts, List.mem_cons, List.not_mem_nil, or_false] at hp
  rcases hp with rfl | rfl
  · exact absurd e (by simp only at dis ⊢; first | exact dis | exact Ne.symm dis | (intro z; simp_all))
  · rfl
theorem sc__law_met : FnScope ["call", "error"] ["call"] (defScope s__law_met) := ⟨rfl, rfl, rfl, by decide +kernel, rfl, by decide +kernel, by decide +kernel⟩
/-- all that was tracked but at d is as it was -/
def Keep (d : Addr) (H H' : Hp) : Prop := ∀ b o, b ≠ d → H b = some o → H' b = some o
theorem isi_int {K : PySem.W.Frag} {i : Int} {H : Hp} {Q : VK} (q : Q (.bl true) H) : rIsi K [.int i, .ty "int"] H Q :=
  ⟨_, _, _, _, _, rfl, .ty "int", .base (.int i), kit_ty (by decide +kernel), q⟩
theorem isi_intB {K : PySem.W.Frag} {i : Int} {H : Hp} {Q : VK} (q : Q (.bl false) H) : rIsi K [.int i, .ty "bool"] H Q :=
  ⟨_, _, _, _, _, rfl, .ty "bool", .base (.int i), kit_ty (by decide +kernel), q⟩
theorem mulS {i j : Int} (h : -(2 ^ 64) < i ∧ i < 2 ^ 64) : CMul i j ∨ CMulW i j := .inl (.inl h)
theorem mulR {i j : Int} (h : -(2 ^ 64) < j ∧ j < 2 ^ 64) : CMul i j ∨ CMulW i j := .inl (.inr h)
theorem divS {i j : Int} (h : 0 < j) (h2 : j < 2 ^ 64) : CDivW i j := wide_div (b := 64) h (by omega) (by decide) (by decide)
/-- d is the least divisor of n from 2 on -/
def Least (d n : Int) : Prop := 2 ≤ d ∧ d ∣ n ∧ ∀ k, 2 ≤ k → k < d → ¬ k ∣ n
theorem emod_small {a m : Int} (h0 : 0 ≤ a) (h1 : a < m) : a % m = a := Int.emod_eq_of_lt h0 h1
theorem emod_emod' (a m : Int) : a % m % m = a % m := Int.emod_emod_of_dvd a (Int.dvd_refl m)
theorem pow_emod (x m : Int) (k : Nat) : (x % m) ^ k % m = x ^ k % m := by
  induction k with
  | zero => rw [Int.pow_zero, Int.pow_zero]
  | succ k ih => rw [Int.pow_succ, Int.pow_succ, Int.mul_emod, ih, emod_emod', ← Int.mul_emod]
theorem pow_two_mul (b : Int) (e : Nat) : b ^ (2 * e) = (b * b) ^ e := by
  rw [Int.pow_mul, Int.pow_succ, Int.pow_succ, Int.pow_zero, Int.one_mul]
/-! heaps -/
theorem same_new {H H' : Hp} {p : Addr} {o : HO} (s : Same H H') (hn : H' p = none) : Same H (upd H' p o) := fun b u h => by
  rw [upd_ne (ne_of_none (s b u h) hn)]; exact s b u h
theorem same_mut {H H' : Hp} {p : Addr} {o : HO} (s : Same H H') (hn : H p = none) : Same H (upd H' p o) := fun b u h => by
  rw [upd_ne (ne_of_none h hn)]; exact s b u h
theorem same_upd {H : Hp} {p : Addr} {o : HO} (hn : H p = none) : Same H (upd H p o) := same_new (Same.refl H) hn
theorem sqT_of {K : PySem.W.Frag} {H : Hp} {a : Addr} {xs : List V} (h : H a = some (.tup xs)) : SqT K H a xs := .inl (.inl h)
theorem sqL_of {K : PySem.W.Frag} {H : Hp} {a : Addr} {xs : List V} (h : H a = some (.lst xs)) : SqL K H a xs := .inl (.inl h)
/-- references to pairs of numbers -/
def PR (H : Hp) : List V → List (Nat × Nat) → Prop := Paired fun v q => ∃ t, v = V.ref t ∧ H t = some (.tup [.int q.1, .int q.2])
theorem paired_map {α β : Type} {F G : α → β → Prop} : ∀ {l₁ : List α} {l₂ : List β}, Paired F l₁ l₂ → (∀ a b, F a b → G a b) → Paired G l₁ l₂
  | _, _, .nil, _ => .nil
  | _, _, .cons r t, f => .cons (f _ _ r) (paired_map t f)
theorem PR.mono {H H' : Hp} {xs : List V} {ps : List (Nat × Nat)} (r : PR H xs ps) (h : ∀ t ys, H t = some (.tup ys) → H' t = some (.tup ys)) : PR H' xs ps :=
  paired_map r fun _ _ ⟨t, e, q⟩ => ⟨t, e, h t _ q⟩
theorem PR.same {H H' : Hp} {xs : List V} {ps : List (Nat × Nat)} (r : PR H xs ps) (h : Same H H') : PR H' xs ps := r.mono fun t ys q => h t _ q
theorem PR.len {H : Hp} {xs : List V} {ps : List (Nat × Nat)} (r : PR H xs ps) : xs.length = ps.length := Paired.length r
theorem PR.get {H : Hp} : ∀ {xs : List V} {ps : List (Nat × Nat)}, PR H xs ps → ∀ {i : Nat} {x : V}, xs[i]? = some x → ∃ q t, ps[i]? = some q ∧ x = V.ref t ∧ H t = some (.tup [.int (q.1 : Int), .int (q.2 : Int)])
  | _, _, .nil, i, x, e => by simp at e
  | _, _, .cons (b := b) ⟨t, e1, h⟩ r, 0, x, e => by
    simp at e
    subst e
    exact ⟨b, t, rfl, e1, h⟩
  | _, _, .cons _ r, i + 1, x, e => by
    obtain ⟨q, t, h1, h2, h3⟩ := PR.get r (i := i) (x := x) (by simpa using e)
    exact ⟨q, t, by simpa using h1, h2, h3⟩
def PrimeI (n : Int) : Prop := 2 ≤ n ∧ ∀ k, 2 ≤ k → k < n → ¬ k ∣ n

theorem least_two {n : Int} (h : n % 2 = 0) : Least 2 n := ⟨by omega, by omega, fun k h1 h2 => by omega⟩
theorem least_self {n d : Int} (hn : 2 ≤ n) (h : ∀ k, 2 ≤ k → k < d → ¬ k ∣ n) (hd : n < d * d) (h0 : 2 ≤ d) : Least n n := by
  refine ⟨hn, Int.dvd_refl n, fun k h1 h2 h3 => ?_⟩
  obtain ⟨q, rfl⟩ := h3
  have hq : 2 ≤ q := by
    by_cases hq0 : q ≤ 0
    · have := Int.mul_le_mul_of_nonneg_left hq0 (show 0 ≤ k by omega)
      omega
    · by_cases hq1 : q = 1
      · subst hq1; omega
      · omega
  by_cases hk : k < d
  · exact h k h1 hk (Int.dvd_mul_right k q)
  · by_cases hqd : q < d
    · exact h q hq hqd (Int.dvd_mul_left k q)
    · have := Int.mul_le_mul (show d ≤ k by omega) (show d ≤ q by omega) (by omega) (by omega)
      omega
theorem in_twothree {n : Int} : inV (.int n) [.int 2, .int 3] = decide (n = 2 ∨ n = 3) := by
  rw [Bool.eq_iff_iff, decide_eq_true_eq]
  simp [inV, eqV]
  omega
theorem prime_two : PrimeI 2 := ⟨by decide, fun k h1 h2 => by omega⟩
theorem prime_three : PrimeI 3 := ⟨by decide, fun k h1 h2 => by
  obtain rfl : k = 2 := by omega
  decide⟩
def PrimeN (p : Nat) : Prop := 2 ≤ p ∧ ∀ k, 2 ≤ k → k < p → ¬ k ∣ p
def stripN : Nat → Nat → Nat → Nat → Nat × Nat
  | 0, _, l, o => (l, o)
  | f + 1, d, l, o => if l % d = 0 then stripN f d (l / d) (o + 1) else (l, o)
def endN (l : Nat) (acc : List (Nat × Nat)) : List (Nat × Nat) := if 1 < l then acc ++ [(l, 1)] else acc
def ppL : Nat → Nat → Nat → List (Nat × Nat) → List (Nat × Nat)
  | 0, _, l, acc => endN l acc
  | f + 1, d, l, acc => if d * d ≤ l then ppL f (if d = 2 then d + 1 else d + 2) (stripN l d l 0).1 (if 0 < (stripN l d l 0).2 then acc ++ [(d, (stripN l d l 0).2)] else acc) else endN l acc
def ppN (n : Nat) : List (Nat × Nat) := ppL n 2 n []
def cuN (ps : List (Nat × Nat)) : Nat := ps.foldl (fun m q => m * (q.1 - 1) * q.1 ^ (q.2 - 1)) 1
theorem stripN_mul : ∀ (f d l o : Nat), (stripN f d l o).1 * d ^ (stripN f d l o).2 = l * d ^ o
  | 0, _, _, _ => rfl
  | f + 1, d, l, o => by
    unfold stripN
    split
    · rename_i h
      rw [stripN_mul f d (l / d) (o + 1), Nat.pow_succ, ← Nat.mul_assoc, Nat.mul_right_comm, Nat.div_mul_cancel (Nat.dvd_of_mod_eq_zero h)]
    · rfl
theorem stripN_end : ∀ (f d l o : Nat), 2 ≤ d → 1 ≤ l → l ≤ f → ¬ d ∣ (stripN f d l o).1 ∧ 1 ≤ (stripN f d l o).1 ∧ (stripN f d l o).1 ≤ l
  | 0, _, l, _, _, h1, h2 => by omega
  | f + 1, d, l, o, hd, h1, h2 => by
    unfold stripN
    split
    · rename_i h
      have hdl : d ≤ l := Nat.le_of_dvd h1 (Nat.dvd_of_mod_eq_zero h)
      have h3 : l / d < l := Nat.div_lt_self h1 hd
      have h4 : 1 ≤ l / d := Nat.div_pos hdl (by omega)
      obtain ⟨a, b, c⟩ := stripN_end f d (l / d) (o + 1) hd h4 (by omega)
      exact ⟨a, b, by omega⟩
    · rename_i h
      exact ⟨fun x => h (Nat.mod_eq_zero_of_dvd x), h1, Nat.le_refl l⟩
/-! ### primes -/
theorem PrimeN.cop {p k : Nat} (hp : PrimeN p) (h : ¬ p ∣ k) : Nat.Coprime p k := by
  unfold Nat.Coprime
  have h1 : Nat.gcd p k ∣ p := Nat.gcd_dvd_left p k
  have h2 : Nat.gcd p k ≤ p := Nat.le_of_dvd (by have := hp.1; omega) h1
  have h3 : 0 < Nat.gcd p k := Nat.gcd_pos_of_pos_left k (by have := hp.1; omega)
  refine Classical.byContradiction fun e => ?_
  by_cases e2 : Nat.gcd p k = p
  · exact h (e2 ▸ Nat.gcd_dvd_right p k)
  · exact hp.2 _ (by omega) (by omega) h1
theorem PrimeN.dvd_mul {p a b : Nat} (hp : PrimeN p) (h : p ∣ a * b) : p ∣ a ∨ p ∣ b := by
  by_cases e : p ∣ a
  · exact .inl e
  · exact .inr (Nat.Coprime.dvd_of_dvd_mul_left (hp.cop e) h)
theorem PrimeN.dvd_pow {p a : Nat} (hp : PrimeN p) : ∀ {e : Nat}, p ∣ a ^ e → p ∣ a
  | 0, h => by
    have := Nat.le_of_dvd (by simp) h
    have := hp.1
    simp at *
    omega
  | e + 1, h => by
    rw [Nat.pow_succ] at h
    rcases hp.dvd_mul h with h | h
    · exact hp.dvd_pow h
    · exact h
theorem PrimeN.eq {p q : Nat} (hp : PrimeN p) (hq : PrimeN q) (h : p ∣ q) : p = q := by
  refine Classical.byContradiction fun e => hq.2 p hp.1 ?_ h
  have := Nat.le_of_dvd (by have := hq.1; omega) h
  omega
/-- each number above 1 has a prime divisor -/
theorem prime_dvd : ∀ (n : Nat), 2 ≤ n → ∃ p, PrimeN p ∧ p ∣ n := by
  intro n
  induction n using Nat.strongRecOn with
  | ind n ih =>
    intro hn
    by_cases h : PrimeN n
    · exact ⟨n, h, Nat.dvd_refl n⟩
    · have : ∃ k, 2 ≤ k ∧ k < n ∧ k ∣ n := Classical.byContradiction fun e => h ⟨hn, fun k h1 h2 h3 => e ⟨k, h1, h2, h3⟩⟩
      obtain ⟨k, h1, h2, h3⟩ := this
      obtain ⟨p, hp, hd⟩ := ih k h2 h1
      exact ⟨p, hp, Nat.dvd_trans hd h3⟩
def prodN (ps : List (Nat × Nat)) : Nat := ps.foldl (fun m q => m * q.1 ^ q.2) 1
theorem prodN_foldl (ps : List (Nat × Nat)) : ∀ a, ps.foldl (fun m q => m * q.1 ^ q.2) a = a * prodN ps := by
  unfold prodN
  induction ps with
  | nil => intro a; simp
  | cons x r ih => intro a; rw [List.foldl_cons, List.foldl_cons, ih, ih (1 * _), Nat.one_mul, Nat.mul_assoc]
theorem prodN_cons (x : Nat × Nat) (r : List (Nat × Nat)) : prodN (x :: r) = x.1 ^ x.2 * prodN r := by
  show r.foldl _ (1 * x.1 ^ x.2) = _
  rw [prodN_foldl, Nat.one_mul]
theorem prodN_snoc (r : List (Nat × Nat)) (x : Nat × Nat) : prodN (r ++ [x]) = prodN r * x.1 ^ x.2 := by
  unfold prodN
  rw [List.foldl_append]
  rfl
theorem prime_prod {p : Nat} (hp : PrimeN p) : ∀ {ps : List (Nat × Nat)}, (∀ q ∈ ps, PrimeN q.1) → p ∣ prodN ps → ∃ q ∈ ps, q.1 = p
  | [], _, h => by
    have := Nat.le_of_dvd (by decide) h
    have := hp.1
    simp [prodN] at *
    omega
  | x :: r, hq, h => by
    rw [prodN_cons] at h
    rcases hp.dvd_mul h with h | h
    · exact ⟨x, List.mem_cons_self, (hp.eq (hq x List.mem_cons_self) (hp.dvd_pow h)).symm⟩
    · obtain ⟨q, h1, h2⟩ := prime_prod hp (fun q h => hq q (List.mem_cons_of_mem _ h)) h
      exact ⟨q, List.mem_cons_of_mem _ h1, h2⟩
/-- the row of prime parts of n -/
structure Good (ps : List (Nat × Nat)) (n : Nat) : Prop where
  prod : prodN ps = n
  pr : ∀ q ∈ ps, PrimeN q.1 ∧ 1 ≤ q.2
  asc : ps.Pairwise fun a b => a.1 < b.1
theorem Good.all {ps : List (Nat × Nat)} {n p : Nat} (g : Good ps n) (hp : PrimeN p) (h : p ∣ n) : ∃ q ∈ ps, q.1 = p :=
  prime_prod hp (fun q hq => (g.pr q hq).1) (by rw [g.prod]; exact h)
theorem exact_of : ∀ {ps : List (Nat × Nat)}, (∀ q ∈ ps, PrimeN q.1 ∧ 1 ≤ q.2) → (ps.Pairwise fun a b => a.1 < b.1) → ∀ q ∈ ps, ∃ r, prodN ps = q.1 ^ q.2 * r ∧ ¬ q.1 ∣ r
  | [], _, _, q, h => by cases h
  | x :: t, hp, ha, q, h => by
    obtain ⟨h1, h2⟩ := List.pairwise_cons.mp ha
    rcases List.mem_cons.mp h with e | h
    · subst e
      refine ⟨prodN t, prodN_cons q t, fun hd => ?_⟩
      obtain ⟨y, hy, e⟩ := prime_prod (hp q List.mem_cons_self).1 (fun z hz => (hp z (List.mem_cons_of_mem _ hz)).1) hd
      have := h1 y hy
      omega
    · obtain ⟨r, e, hr⟩ := exact_of (fun z hz => hp z (List.mem_cons_of_mem _ hz)) h2 q h
      refine ⟨x.1 ^ x.2 * r, ?_, fun hd => ?_⟩
      · rw [prodN_cons, e, Nat.mul_left_comm]
      · have pq := (hp q (List.mem_cons_of_mem _ h)).1
        rcases pq.dvd_mul hd with hd | hd
        · have e2 := pq.eq (hp x List.mem_cons_self).1 (pq.dvd_pow hd)
          have := h1 q h
          omega
        · exact hr hd
theorem Good.exact {ps : List (Nat × Nat)} {n : Nat} (g : Good ps n) {q : Nat × Nat} (h : q ∈ ps) : ∃ r, n = q.1 ^ q.2 * r ∧ ¬ q.1 ∣ r := by
  obtain ⟨r, e, hr⟩ := exact_of g.pr g.asc q h
  exact ⟨r, by rw [← g.prod, e], hr⟩
theorem prime_end {d l : Nat} (h1 : 1 < l) (h2 : l < d * d) (h3 : ∀ k, 2 ≤ k → k < d → ¬ k ∣ l) : PrimeN l ∧ d ≤ l := by
  refine ⟨⟨h1, fun k hk hkl hd => ?_⟩, ?_⟩
  · obtain ⟨q, rfl⟩ := hd
    have hq : 2 ≤ q := by
      rcases q with _ | _ | q
      · simp at h1
      · simp at hkl
      · omega
    by_cases e : k < d
    · exact h3 k hk e (Nat.dvd_mul_right k q)
    · by_cases e2 : q < d
      · exact h3 q hq e2 (Nat.dvd_mul_left q k)
      · have := Nat.mul_le_mul (show d ≤ k by omega) (show d ≤ q by omega)
        omega
  · refine Classical.byContradiction fun e => h3 l h1 (by omega) (Nat.dvd_refl l)
theorem endN_good {d l n : Nat} {acc : List (Nat × Nat)} (hl : 1 ≤ l) (h2 : l < d * d) (h3 : ∀ k, 2 ≤ k → k < d → ¬ k ∣ l) (hp : prodN acc * l = n) (ha : ∀ q ∈ acc, PrimeN q.1 ∧ 1 ≤ q.2 ∧ q.1 < d) (hs : acc.Pairwise fun a b => a.1 < b.1) : Good (endN l acc) n := by
  unfold endN
  by_cases h1 : 1 < l
  · rw [if_pos h1]
    obtain ⟨pl, hdl⟩ := prime_end h1 h2 h3
    refine ⟨by rw [prodN_snoc]; simpa using hp, fun q hq => ?_, ?_⟩
    · rcases List.mem_append.mp hq with h | h
      · exact ⟨(ha q h).1, (ha q h).2.1⟩
      · obtain rfl : q = (l, 1) := by simpa using h
        exact ⟨pl, Nat.le_refl 1⟩
    · rw [List.pairwise_append]
      refine ⟨hs, by simp, fun a h b hb => ?_⟩
      obtain rfl : b = (l, 1) := by simpa using hb
      have := (ha a h).2.2
      show a.1 < l
      omega
  · rw [if_neg h1]
    obtain rfl : l = 1 := by omega
    exact ⟨by simpa using hp, fun q hq => ⟨(ha q hq).1, (ha q hq).2.1⟩, hs⟩
theorem ppL_good : ∀ (f d l n : Nat) (acc : List (Nat × Nat)), 2 ≤ d → (d = 2 ∨ d % 2 = 1) → 1 ≤ l → l + 2 ≤ f + d → (∀ k, 2 ≤ k → k < d → ¬ k ∣ l) → prodN acc * l = n → (∀ q ∈ acc, PrimeN q.1 ∧ 1 ≤ q.2 ∧ q.1 < d) → (acc.Pairwise fun a b => a.1 < b.1) → Good (ppL f d l acc) n
  | 0, d, l, n, acc, hd, _, hl, hf, hk, hp, ha, hs => by
    have : d ≤ d * d := Nat.le_mul_of_pos_right d (by omega)
    exact endN_good hl (by omega) hk hp ha hs
  | f + 1, d, l, n, acc, hd, ho, hl, hf, hk, hp, ha, hs => by
    unfold ppL
    by_cases h : d * d ≤ l
    · rw [if_pos h]
      have hm := stripN_mul l d l 0
      obtain ⟨e1, e2, e3⟩ := stripN_end l d l 0 hd hl (Nat.le_refl l)
      revert hm e1 e2 e3
      generalize stripN l d l 0 = z
      obtain ⟨l', e⟩ := z
      intro hm e1 e2 e3
      simp only [Nat.pow_zero, Nat.mul_one] at hm
      dsimp only at e1 e2 e3
      have hdvd : l' ∣ l := ⟨d ^ e, hm.symm⟩
      have nok : ∀ k, 2 ≤ k → k < (if d = 2 then d + 1 else d + 2) → ¬ k ∣ l' := fun k h1 h2 h3 => by
        by_cases c1 : k < d
        · exact hk k h1 c1 (Nat.dvd_trans h3 hdvd)
        · by_cases c2 : k = d
          · exact e1 (c2 ▸ h3)
          · split at h2
            · omega
            · obtain rfl : k = d + 1 := by omega
              refine hk 2 (Nat.le_refl 2) (by omega) (Nat.dvd_trans (Nat.dvd_trans ?_ h3) hdvd)
              exact ⟨(d + 1) / 2, by omega⟩
      have par : (if d = 2 then d + 1 else d + 2) = 2 ∨ (if d = 2 then d + 1 else d + 2) % 2 = 1 := by split <;> omega
      have big : d + 1 ≤ if d = 2 then d + 1 else d + 2 := by split <;> omega
      by_cases he : 0 < e
      · show Good (ppL f _ l' (if 0 < e then acc ++ [(d, e)] else acc)) n
        rw [if_pos he]
        have hdl : d ∣ l := by
          obtain ⟨e', rfl⟩ : ∃ e', e = e' + 1 := ⟨e - 1, by omega⟩
          exact ⟨l' * d ^ e', by rw [← hm, Nat.pow_succ, Nat.mul_comm d, Nat.mul_assoc]⟩
        have pd : PrimeN d := ⟨hd, fun k h1 h2 h3 => hk k h1 h2 (Nat.dvd_trans h3 hdl)⟩
        refine ppL_good f _ l' n _ (by omega) par e2 (by omega) nok ?_ (fun q hq => ?_) ?_
        · rw [prodN_snoc, ← hp, ← hm, Nat.mul_assoc, Nat.mul_comm (d ^ e)]
        · rcases List.mem_append.mp hq with h | h
          · obtain ⟨a, b, c⟩ := ha q h
            exact ⟨a, b, by omega⟩
          · obtain rfl : q = (d, e) := by simpa using h
            exact ⟨pd, he, by omega⟩
        · rw [List.pairwise_append]
          refine ⟨hs, by simp, fun a h b hb => ?_⟩
          obtain rfl : b = (d, e) := by simpa using hb
          exact (ha a h).2.2
      · show Good (ppL f _ l' (if 0 < e then acc ++ [(d, e)] else acc)) n
        rw [if_neg he]
        obtain rfl : e = 0 := by omega
        refine ppL_good f _ l' n _ (by omega) par e2 (by omega) nok ?_ (fun q hq => ?_) hs
        · rw [← hp, ← hm]; simp
        · obtain ⟨a, b, c⟩ := ha q hq
          exact ⟨a, b, by omega⟩
    · rw [if_neg h]
      exact endN_good hl (by omega) hk hp ha hs
theorem ppN_good {n : Nat} (hn : 1 ≤ n) : Good (ppN n) n :=
  ppL_good n 2 n n [] (Nat.le_refl 2) (.inl rfl) hn (Nat.le_refl _) (fun k h1 h2 => by omega) (by simp [prodN]) (by simp) List.Pairwise.nil
theorem Good.le {ps : List (Nat × Nat)} {n : Nat} (hn : 1 ≤ n) (g : Good ps n) {q : Nat × Nat} (h : q ∈ ps) : q.1 ^ q.2 ≤ n ∧ q.1 ≤ n ∧ q.1 ^ (q.2 - 1) ≤ n := by
  obtain ⟨r, e, _⟩ := g.exact h
  obtain ⟨pq, he⟩ := g.pr q h
  have h1 : q.1 ^ q.2 ≤ n := Nat.le_of_dvd hn ⟨r, e⟩
  refine ⟨h1, Nat.le_trans ?_ h1, Nat.le_trans (Nat.pow_le_pow_right (by have := pq.1; omega) (by omega)) h1⟩
  calc q.1 = q.1 ^ 1 := by simp
    _ ≤ q.1 ^ q.2 := Nat.pow_le_pow_right (by have := pq.1; omega) he
theorem cuN_foldl (ps : List (Nat × Nat)) : ∀ a, ps.foldl (fun m q => m * (q.1 - 1) * q.1 ^ (q.2 - 1)) a = a * cuN ps := by
  unfold cuN
  induction ps with
  | nil => intro a; simp
  | cons x r ih => intro a; rw [List.foldl_cons, List.foldl_cons, ih, ih (1 * _ * _), Nat.one_mul, Nat.mul_assoc, Nat.mul_assoc, Nat.mul_assoc]
theorem cuN_cons (x : Nat × Nat) (r : List (Nat × Nat)) : cuN (x :: r) = (x.1 - 1) * x.1 ^ (x.2 - 1) * cuN r := by
  show r.foldl _ (1 * (x.1 - 1) * x.1 ^ (x.2 - 1)) = _
  rw [cuN_foldl, Nat.one_mul]
theorem cuN_bounds : ∀ {ps : List (Nat × Nat)}, (∀ q ∈ ps, PrimeN q.1 ∧ 1 ≤ q.2) → 1 ≤ cuN ps ∧ cuN ps ≤ prodN ps
  | [], _ => ⟨Nat.le_refl 1, Nat.le_refl 1⟩
  | x :: r, h => by
    obtain ⟨a, b⟩ := cuN_bounds fun q hq => h q (List.mem_cons_of_mem _ hq)
    obtain ⟨p, e⟩ := h x List.mem_cons_self
    have p2 := p.1
    rw [cuN_cons, prodN_cons]
    have h1 : 1 ≤ x.1 ^ (x.2 - 1) := Nat.pos_of_ne_zero (by
      intro z
      have := Nat.pow_pos (n := x.2 - 1) (show 0 < x.1 by omega)
      omega)
    have h2 : x.1 ^ x.2 = x.1 * x.1 ^ (x.2 - 1) := by
      obtain ⟨k, hk⟩ : ∃ k, x.2 = k + 1 := ⟨x.2 - 1, by omega⟩
      rw [hk, Nat.pow_succ, Nat.mul_comm]
      rfl
    refine ⟨Nat.mul_pos (Nat.mul_pos (by omega) h1) a, ?_⟩
    rw [h2]
    exact Nat.mul_le_mul (Nat.mul_le_mul (by omega) (Nat.le_refl _)) b
theorem len_le : ∀ {ps : List (Nat × Nat)}, (∀ q ∈ ps, PrimeN q.1 ∧ 1 ≤ q.2) → 2 ^ ps.length ≤ prodN ps
  | [], _ => Nat.le_refl 1
  | x :: r, h => by
    have ih := len_le fun q hq => h q (List.mem_cons_of_mem _ hq)
    obtain ⟨p, e⟩ := h x List.mem_cons_self
    have p2 := p.1
    rw [prodN_cons, List.length_cons, Nat.pow_succ, Nat.mul_comm]
    refine Nat.mul_le_mul ?_ ih
    calc 2 ≤ x.1 ^ 1 := by simpa using p2
      _ ≤ x.1 ^ x.2 := Nat.pow_le_pow_right (by omega) e

/-! ### orders -/
def IsOrd (m n : Int) (k : Nat) : Prop := 1 ≤ k ∧ n ^ k % m = 1 % m ∧ ∀ j, 1 ≤ j → j < k → n ^ j % m ≠ 1 % m
theorem one_mul_mod {m x : Int} (h : x % m = 1 % m) (y : Int) : x * y % m = y % m := by
  rw [Int.mul_emod, h, ← Int.mul_emod, Int.one_mul]
theorem pow_mul_one {m n : Int} {k : Nat} (h : n ^ k % m = 1 % m) : ∀ q, n ^ (k * q) % m = 1 % m
  | 0 => by simp
  | q + 1 => by rw [Nat.mul_succ, Int.pow_add, Int.mul_comm, one_mul_mod h, pow_mul_one h q]
theorem IsOrd.dvd {m n : Int} {k : Nat} (h : IsOrd m n k) {j : Nat} : n ^ j % m = 1 % m ↔ k ∣ j := by
  constructor
  · intro e
    have e2 : j = k * (j / k) + j % k := (Nat.div_add_mod j k).symm
    rw [e2, Int.pow_add, one_mul_mod (pow_mul_one h.2.1 _)] at e
    by_cases z : j % k = 0
    · exact Nat.dvd_of_mod_eq_zero z
    · exact absurd e (h.2.2 _ (by omega) (Nat.mod_lt _ h.1))
  · rintro ⟨q, rfl⟩
    exact pow_mul_one h.2.1 q
theorem ord_ex {m n : Int} {N : Nat} (h1 : 1 ≤ N) (h : n ^ N % m = 1 % m) : ∃ k, IsOrd m n k := by
  induction N using Nat.strongRecOn with
  | ind N ih =>
    by_cases e : ∃ j, 1 ≤ j ∧ j < N ∧ n ^ j % m = 1 % m
    · obtain ⟨j, a, b, c⟩ := e
      exact ih j b a c
    · exact ⟨N, h1, h, fun j a b c => e ⟨j, a, b, c⟩⟩
theorem IsOrd.inj {m n : Int} {k j : Nat} (a : IsOrd m n k) (b : IsOrd m n j) : k = j :=
  Nat.dvd_antisymm (a.dvd.mp b.2.1) (b.dvd.mp a.2.1)
theorem IsOrd.mod {m n n' : Int} {k : Nat} (a : IsOrd m n k) (e : n % m = n' % m) : IsOrd m n' k := by
  have h : ∀ j, n' ^ j % m = n ^ j % m := fun j => by rw [← pow_emod, ← e, pow_emod]
  exact ⟨a.1, by rw [h]; exact a.2.1, fun j x y => by rw [h]; exact a.2.2 j x y⟩
/-- the order of a power -/
theorem IsOrd.pow {m n : Int} {k t : Nat} (a : IsOrd m n k) (ht : 1 ≤ t) : IsOrd m (n ^ t) (k / Nat.gcd k t) := by
  have hg : 0 < Nat.gcd k t := Nat.gcd_pos_of_pos_left t a.1
  have hc : Nat.Coprime (k / Nat.gcd k t) (t / Nat.gcd k t) := Nat.coprime_div_gcd_div_gcd hg
  have e1 : k = Nat.gcd k t * (k / Nat.gcd k t) := (Nat.mul_div_cancel' (Nat.gcd_dvd_left k t)).symm
  have e2 : t = Nat.gcd k t * (t / Nat.gcd k t) := (Nat.mul_div_cancel' (Nat.gcd_dvd_right k t)).symm
  revert hg hc e1 e2
  generalize k / Nat.gcd k t = x
  generalize t / Nat.gcd k t = y
  generalize Nat.gcd k t = g
  intro hg hc e1 e2
  have key : ∀ j, (n ^ t) ^ j % m = 1 % m ↔ x ∣ j := fun j => by
    rw [← Int.pow_mul, a.dvd, e1, e2, Nat.mul_assoc]
    constructor
    · intro h
      exact Nat.Coprime.dvd_of_dvd_mul_left hc (Nat.dvd_of_mul_dvd_mul_left hg h)
    · rintro ⟨z, rfl⟩
      exact ⟨y * z, by rw [Nat.mul_assoc, Nat.mul_left_comm y x z]⟩
  have h1 : 1 ≤ x := Nat.pos_of_ne_zero fun z => by rw [z, Nat.mul_zero] at e1; have := a.1; omega
  refine ⟨h1, (key _).mpr (Nat.dvd_refl _), fun j u v e => ?_⟩
  have := Nat.le_of_dvd u ((key j).mp e)
  omega
theorem dvd_div_of_mul {a b c : Nat} (hb : 0 < b) (h : a * b ∣ c) : a ∣ c / b := by
  obtain ⟨z, rfl⟩ := h
  exact ⟨z, by rw [show a * b * z = b * (a * z) by simp only [Nat.mul_assoc, Nat.mul_left_comm, Nat.mul_comm], Nat.mul_div_cancel_left _ hb]⟩
/-- the steps of order_of: what holds ahead of the i-th prime -/
structure OrdInv (m n : Int) (N k : Nat) (ps : List (Nat × Nat)) (i o : Nat) : Prop where
  pos : 1 ≤ o
  ko : k ∣ o
  oN : o ∣ N
  old : ∀ j q, j < i → ps[j]? = some q → ¬ q.1 * k ∣ o
  new : ∀ j q, i ≤ j → ps[j]? = some q → q.1 ^ q.2 ∣ o
/-- .. and within the turns for one prime -/
def OrdIn (m n : Int) (q : Nat × Nat) (o0 t o : Nat) : Prop := ∃ s, s ≤ t ∧ o0 = o * q.1 ^ s ∧ (s = t ∨ (q.1 ∣ o ∧ n ^ (o / q.1) % m ≠ 1 % m))
theorem OrdIn.dvd {m n : Int} {q : Nat × Nat} {o0 t o : Nat} (h : OrdIn m n q o0 t o) (ht : t < q.2) (hq : 2 ≤ q.1) (hd : q.1 ^ q.2 ∣ o0) : q.1 ∣ o := by
  obtain ⟨s, hs, e, h⟩ := h
  rcases h with h | h
  · subst h
    rw [e] at hd
    have h1 : q.1 ^ q.2 = q.1 ^ (q.2 - s) * q.1 ^ s := by rw [← Nat.pow_add]; congr 1; omega
    rw [h1] at hd
    have h2 := Nat.dvd_of_mul_dvd_mul_right (Nat.pow_pos (by omega)) hd
    refine Nat.dvd_trans ?_ h2
    exact ⟨q.1 ^ (q.2 - s - 1), by rw [Nat.mul_comm, ← Nat.pow_succ]; congr 1; omega⟩
  · exact h.1
theorem OrdIn.step1 {m n : Int} {q : Nat × Nat} {o0 t o : Nat} (h : OrdIn m n q o0 t o) (hd : q.1 ∣ o) (hp : n ^ (o / q.1) % m = 1 % m) : OrdIn m n q o0 (t + 1) (o / q.1) := by
  obtain ⟨s, hs, e, h⟩ := h
  rcases h with h | h
  · subst h
    exact ⟨s + 1, Nat.le_refl _, by rw [e, Nat.pow_succ, Nat.mul_comm (q.1 ^ s), ← Nat.mul_assoc, Nat.div_mul_cancel hd], .inl rfl⟩
  · exact absurd hp h.2
theorem OrdIn.step2 {m n : Int} {q : Nat × Nat} {o0 t o : Nat} (h : OrdIn m n q o0 t o) (hd : q.1 ∣ o) (hp : n ^ (o / q.1) % m ≠ 1 % m) : OrdIn m n q o0 (t + 1) o := by
  obtain ⟨s, hs, e, h⟩ := h
  exact ⟨s, by omega, e, .inr ⟨hd, hp⟩⟩
theorem OrdInv.next {m n : Int} {N k : Nat} {ps : List (Nat × Nat)} {i o0 o : Nat} {q : Nat × Nat} (hN : 1 ≤ N) (g : Good ps N) (hk : IsOrd m n k) (I : OrdInv m n N k ps i o0) (hi : ps[i]? = some q) (h : OrdIn m n q o0 q.2 o) (ko : k ∣ o) : OrdInv m n N k ps (i + 1) o := by
  obtain ⟨s, hs, e, h⟩ := h
  have pq := (g.pr q (List.mem_of_getElem? hi)).1
  have hoo : o ∣ o0 := ⟨q.1 ^ s, e⟩
  have op : 1 ≤ o := Nat.pos_of_ne_zero fun z => by rw [z, Nat.zero_mul] at e; have := I.pos; omega
  refine ⟨op, ko, Nat.dvd_trans hoo I.oN, fun j q' hj hq' hd => ?_, fun j q' hj hq' => ?_⟩
  · by_cases c : j < i
    · exact I.old j q' c hq' (Nat.dvd_trans hd hoo)
    · obtain rfl : j = i := by omega
      rw [hi] at hq'
      cases hq'
      rcases h with h | h
      · subst h
        obtain ⟨r, er, hr⟩ := g.exact (List.mem_of_getElem? hi)
        have h1 : q.1 ∣ o := Nat.dvd_trans (Nat.dvd_mul_right _ _) hd
        have h2 : o * q.1 ^ q.2 ∣ q.1 ^ q.2 * r := by rw [← e, ← er]; exact I.oN
        rw [Nat.mul_comm] at h2
        exact hr (Nat.dvd_trans h1 (Nat.dvd_of_mul_dvd_mul_left (Nat.pow_pos (by have := pq.1; omega)) h2))
      · refine h.2 (hk.dvd.mpr ?_)
        rw [Nat.mul_comm] at hd
        exact dvd_div_of_mul (by have := pq.1; omega) hd
  · have h1 := I.new j q' (by omega) hq'
    rw [e] at h1
    have pq' := (g.pr q' (List.mem_of_getElem? hq')).1
    have ne : q.1 < q'.1 := by
      obtain ⟨a1, a2⟩ := List.getElem?_eq_some_iff.mp hi
      obtain ⟨b1, b2⟩ := List.getElem?_eq_some_iff.mp hq'
      have := List.pairwise_iff_getElem.mp g.asc i j a1 b1 (by omega)
      rw [a2, b2] at this
      exact this
    have cop : Nat.Coprime (q'.1 ^ q'.2) (q.1 ^ s) := Nat.Coprime.pow_left _ (Nat.Coprime.pow_right _ (pq'.cop fun d => by
      have := pq'.eq pq d
      omega))
    exact Nat.Coprime.dvd_of_dvd_mul_right cop h1
theorem OrdInv.start {m n : Int} {N k : Nat} {ps : List (Nat × Nat)} (hN : 1 ≤ N) (g : Good ps N) (hk : IsOrd m n k) (h : n ^ N % m = 1 % m) : OrdInv m n N k ps 0 N :=
  ⟨hN, hk.dvd.mp h, Nat.dvd_refl N, fun j q hj => by omega, fun j q _ hq => by
    obtain ⟨r, e, _⟩ := g.exact (List.mem_of_getElem? hq)
    exact ⟨r, e⟩⟩
theorem OrdInv.end {m n : Int} {N k : Nat} {ps : List (Nat × Nat)} {o : Nat} (hN : 1 ≤ N) (g : Good ps N) (hk : IsOrd m n k) (I : OrdInv m n N k ps ps.length o) : o = k := by
  obtain ⟨z, e⟩ := I.ko
  have hz : z = 1 := by
    refine Classical.byContradiction fun c => ?_
    have z0 : z ≠ 0 := fun q => by rw [q, Nat.mul_zero] at e; have := I.pos; omega
    obtain ⟨p, hp, hd⟩ := prime_dvd z (by omega)
    have hpN : p ∣ N := Nat.dvd_trans (Nat.dvd_trans hd ⟨k, by rw [e, Nat.mul_comm]⟩) I.oN
    obtain ⟨q, hq, rfl⟩ := g.all hp hpN
    obtain ⟨j, hj, ej⟩ := List.getElem_of_mem hq
    refine I.old j q hj (by rw [List.getElem?_eq_getElem hj, ej]) ?_
    obtain ⟨y, rfl⟩ := hd
    exact ⟨y, by rw [e, Nat.mul_comm q.1 k, Nat.mul_assoc]⟩
  rw [e, hz, Nat.mul_one]
/-! a number without a common divisor, to as many as the number of units, for small moduli: primes tried one by one -/
def smallP : List Nat := [2, 3, 5, 7, 11, 13, 17, 19, 23, 29, 31, 37, 41, 43, 47, 53, 59, 61, 67, 71, 73, 79, 83, 89, 97, 101, 103, 107, 109, 113, 127, 131, 137, 139, 149, 151, 157, 163, 167, 173, 179, 181, 191, 193, 197, 199, 211, 223, 227, 229, 233, 239, 241, 251, 257, 263, 269, 271, 277, 281, 283, 293, 307, 311, 313, 317, 331, 337, 347, 349, 353, 359, 367, 373, 379, 383, 389, 397, 401, 409, 419, 421, 431, 433, 439, 443, 449, 457, 461, 463, 467, 479, 487, 491, 499, 503, 509, 521, 523, 541, 547, 557, 563, 569, 571, 577, 587, 593, 599, 601, 607, 613, 617, 619, 631, 641, 643, 647, 653, 659, 661, 673, 677, 683, 691]
def smallPB : Bool := (List.range 700).all fun p => Nat.blt p 2 || smallP.contains p || (List.range 26).any fun k => (k + 2) < p && p % (k + 2) == 0
theorem smallPB_ok : smallPB = true := by decide +kernel
theorem smallP_mem {p : Nat} (hp : PrimeN p) (h : p < 700) : p ∈ smallP := by
  have h2 := List.all_eq_true.mp (show (List.range 700).all _ = true from smallPB_ok) p (List.mem_range.mpr h)
  simp only [Bool.or_eq_true] at h2
  rcases h2 with (h2 | h2) | h2
  · have h3 : p < 2 := Nat.blt_eq.mp h2
    have := hp.1
    omega
  · exact List.contains_iff_mem.mp h2
  · obtain ⟨k, _, hk⟩ := List.any_eq_true.mp h2
    simp only [Bool.and_eq_true, decide_eq_true_eq, beq_iff_eq] at hk
    exact absurd (Nat.dvd_of_mod_eq_zero hk.2) (hp.2 _ (by omega) hk.1)
def eulerB : Bool := (List.range 701).all fun m => m == 0 || (let N := cuN (ppN m); smallP.all fun p => Nat.ble m p || m % p == 0 || p ^ N % m == 1 % m)
theorem euler_ok : eulerB = true := by decide +kernel
theorem euler_nat {m : Nat} (h1 : 1 ≤ m) (h2 : m ≤ 700) : ∀ a, a < m → Nat.gcd a m = 1 → a ^ (cuN (ppN m)) % m = 1 % m := by
  intro a
  induction a using Nat.strongRecOn with
  | ind a ih =>
    intro ha hg
    have hN := (cuN_bounds (ppN_good h1).pr).1
    by_cases a0 : a = 0
    · subst a0
      rw [Nat.gcd_zero_left] at hg
      subst hg
      rw [Nat.mod_one, Nat.mod_one]
    by_cases a1 : a = 1
    · subst a1; rw [Nat.one_pow]
    obtain ⟨p, hp, hd⟩ := prime_dvd a (by omega)
    obtain ⟨b, rfl⟩ := hd
    have p2 := hp.1
    have hb : b ≠ 0 := fun z => by simp [z] at a0
    have hpa : p ≤ p * b := Nat.le_mul_of_pos_right p (by omega)
    have hba : b < p * b := by
      have := Nat.mul_le_mul_right b p2
      omega
    have gp : Nat.gcd p m = 1 := Nat.dvd_one.mp (hg ▸ Nat.dvd_gcd (Nat.dvd_trans (Nat.gcd_dvd_left p m) (Nat.dvd_mul_right p b)) (Nat.gcd_dvd_right p m))
    have gb : Nat.gcd b m = 1 := Nat.dvd_one.mp (hg ▸ Nat.dvd_gcd (Nat.dvd_trans (Nat.gcd_dvd_left b m) (Nat.dvd_mul_left b p)) (Nat.gcd_dvd_right b m))
    have hpm : p ^ (cuN (ppN m)) % m = 1 % m := by
      have h := List.all_eq_true.mp (show (List.range 701).all _ = true from euler_ok) m (List.mem_range.mpr (by omega))
      simp only [Bool.or_eq_true, beq_iff_eq, show ¬ m = 0 by omega, false_or] at h
      have h4 := List.all_eq_true.mp h p (smallP_mem hp (by omega))
      simp only [Bool.or_eq_true, beq_iff_eq] at h4
      rcases h4 with (h4 | h4) | h4
      · have := Nat.ble_eq.mp h4; omega
      · have h5 : p ∣ m := Nat.dvd_of_mod_eq_zero h4
        have h6 := Nat.dvd_gcd (Nat.dvd_refl p) h5
        rw [gp] at h6
        have := Nat.dvd_one.mp h6
        omega
      · exact h4
    have hbm := ih b hba (by omega) gb
    rw [Nat.mul_pow, Nat.mul_mod, hpm, hbm, ← Nat.mul_mod]
theorem euler_small {m : Nat} {n : Int} (h1 : 1 ≤ m) (h2 : m ≤ 700) (hg : Nat.gcd m n.natAbs = 1) : n ^ (cuN (ppN m)) % (m : Int) = 1 % (m : Int) := by
  have hm : (0 : Int) < m := by omega
  obtain ⟨a, ha⟩ : ∃ a : Nat, n % (m : Int) = a := ⟨(n % (m : Int)).toNat, by have := Int.emod_nonneg n (show (m : Int) ≠ 0 by omega); omega⟩
  have ha2 : a < m := by have := Int.emod_lt_of_pos n hm; omega
  have hga : Nat.gcd a m = 1 := by
    have d1 : Nat.gcd a m ∣ m := Nat.gcd_dvd_right a m
    have d2 : Nat.gcd a m ∣ n.natAbs := by
      have e : n = (m : Int) * (n / (m : Int)) + (a : Int) := by rw [← ha]; exact (Int.mul_ediv_add_emod n (m : Int)).symm
      have h : ((Nat.gcd a m : Nat) : Int) ∣ n := by
        rw [e]
        exact Int.dvd_add (Int.dvd_mul_of_dvd_left (Int.natCast_dvd_natCast.mpr d1)) (Int.natCast_dvd_natCast.mpr (Nat.gcd_dvd_left a m))
      have h9 := Int.natAbs_dvd_natAbs.mpr h
      rw [Int.natAbs_natCast] at h9
      exact h9
    have := Nat.dvd_gcd d1 d2
    rw [hg] at this
    exact Nat.dvd_one.mp this
  have h4 := euler_nat h1 h2 a ha2 hga
  rw [← pow_emod, ha, ← Int.natCast_pow, ← Int.natCast_emod, h4]
  rw [Int.natCast_emod]
  rfl

/-! values of any kind -/
def isI : V → Bool
  | .int _ => true
  | _ => false
def isB : V → Bool
  | .bl _ => true
  | _ => false
def Kn (H : Hp) : V → Prop
  | .non => True
  | .bl _ => True
  | .int _ => True
  | .str _ => True
  | .ref a => (∃ xs, H a = some (.lst xs)) ∨ (∃ xs, H a = some (.tup xs)) ∨ ∃ kvs, H a = some (.dK kvs)
  | _ => False
theorem Kn.same {H H' : Hp} {v : V} (k : Kn H v) (s : Same H H') : Kn H' v := by
  cases v with
  | ref a =>
    rcases k with ⟨xs, h⟩ | ⟨xs, h⟩ | ⟨xs, h⟩
    · exact .inl ⟨xs, s _ _ h⟩
    · exact .inr (.inl ⟨xs, s _ _ h⟩)
    · exact .inr (.inr ⟨xs, s _ _ h⟩)
  | _ => exact k
theorem isi_kn_int {K : PySem.W.Frag} {v : V} {H : Hp} {Q : VK} (k : Kn H v) (q : Q (.bl (isI v || isB v)) H) : rIsi K [v, .ty "int"] H Q := by
  cases v with
  | non => exact ⟨_, _, _, _, _, rfl, .ty "int", .base .non, kit_ty (show kitB "NoneType" "int" = some false by decide +kernel), q⟩
  | bl b => exact ⟨_, _, _, _, _, rfl, .ty "int", .base (.bl b), kit_ty (show kitB "bool" "int" = some true by decide +kernel), q⟩
  | int i => exact ⟨_, _, _, _, _, rfl, .ty "int", .base (.int i), kit_ty (show kitB "int" "int" = some true by decide +kernel), q⟩
  | str x => exact ⟨_, _, _, _, _, rfl, .ty "int", .base (.str x), kit_ty (show kitB "str" "int" = some false by decide +kernel), q⟩
  | ref a =>
    rcases k with ⟨xs, h⟩ | ⟨xs, h⟩ | ⟨xs, h⟩
    · exact ⟨_, _, _, _, _, rfl, .ty "int", .base (.lst h), kit_ty (show kitB "list" "int" = some false by decide +kernel), q⟩
    · exact ⟨_, _, _, _, _, rfl, .ty "int", .base (.tup h), kit_ty (show kitB "tuple" "int" = some false by decide +kernel), q⟩
    · exact ⟨_, _, _, _, _, rfl, .ty "int", .base (.dK h), kit_ty (show kitB "dict" "int" = some false by decide +kernel), q⟩
  | byt _ => exact k.elim
  | flt _ => exact k.elim
  | ty _ => exact k.elim
theorem isi_kn_bool {K : PySem.W.Frag} {v : V} {H : Hp} {Q : VK} (k : Kn H v) (q : Q (.bl (isB v)) H) : rIsi K [v, .ty "bool"] H Q := by
  cases v with
  | non => exact ⟨_, _, _, _, _, rfl, .ty "bool", .base .non, kit_ty (show kitB "NoneType" "bool" = some false by decide +kernel), q⟩
  | bl b => exact ⟨_, _, _, _, _, rfl, .ty "bool", .base (.bl b), kit_ty (show kitB "bool" "bool" = some true by decide +kernel), q⟩
  | int i => exact ⟨_, _, _, _, _, rfl, .ty "bool", .base (.int i), kit_ty (show kitB "int" "bool" = some false by decide +kernel), q⟩
  | str x => exact ⟨_, _, _, _, _, rfl, .ty "bool", .base (.str x), kit_ty (show kitB "str" "bool" = some false by decide +kernel), q⟩
  | ref a =>
    rcases k with ⟨xs, h⟩ | ⟨xs, h⟩ | ⟨xs, h⟩
    · exact ⟨_, _, _, _, _, rfl, .ty "bool", .base (.lst h), kit_ty (show kitB "list" "bool" = some false by decide +kernel), q⟩
    · exact ⟨_, _, _, _, _, rfl, .ty "bool", .base (.tup h), kit_ty (show kitB "tuple" "bool" = some false by decide +kernel), q⟩
    · exact ⟨_, _, _, _, _, rfl, .ty "bool", .base (.dK h), kit_ty (show kitB "dict" "bool" = some false by decide +kernel), q⟩
  | byt _ => exact k.elim
  | flt _ => exact k.elim
  | ty _ => exact k.elim
/-- the value is a tuple of these -/
def TupV (H : Hp) (v : V) (xs : List V) : Prop := ∃ a, v = .ref a ∧ H a = some (.tup xs)
theorem TupV.same {H H' : Hp} {v : V} {xs : List V} (k : TupV H v xs) (s : Same H H') : TupV H' v xs := by
  obtain ⟨a, e, h⟩ := k
  exact ⟨a, e, s _ _ h⟩
theorem isi_kn_tuple {K : PySem.W.Frag} {v : V} {H : Hp} {Q : VK} (k : Kn H v) (q1 : ∀ xs, TupV H v xs → Q (.bl true) H) (q2 : (∀ xs, ¬ TupV H v xs) → Q (.bl false) H) : rIsi K [v, .ty "tuple"] H Q := by
  cases v with
  | non => exact ⟨_, _, _, _, _, rfl, .ty "tuple", .base .non, kit_ty (show kitB "NoneType" "tuple" = some false by decide +kernel), q2 fun _ ⟨_, e, _⟩ => by cases e⟩
  | bl b => exact ⟨_, _, _, _, _, rfl, .ty "tuple", .base (.bl b), kit_ty (show kitB "bool" "tuple" = some false by decide +kernel), q2 fun _ ⟨_, e, _⟩ => by cases e⟩
  | int i => exact ⟨_, _, _, _, _, rfl, .ty "tuple", .base (.int i), kit_ty (show kitB "int" "tuple" = some false by decide +kernel), q2 fun _ ⟨_, e, _⟩ => by cases e⟩
  | str x => exact ⟨_, _, _, _, _, rfl, .ty "tuple", .base (.str x), kit_ty (show kitB "str" "tuple" = some false by decide +kernel), q2 fun _ ⟨_, e, _⟩ => by cases e⟩
  | ref a =>
    rcases k with ⟨xs, h⟩ | ⟨xs, h⟩ | ⟨xs, h⟩
    · exact ⟨_, _, _, _, _, rfl, .ty "tuple", .base (.lst h), kit_ty (show kitB "list" "tuple" = some false by decide +kernel), q2 fun _ ⟨_, e, h2⟩ => by cases e; rw [h] at h2; cases h2⟩
    · exact ⟨_, _, _, _, _, rfl, .ty "tuple", .base (.tup h), kit_ty (show kitB "tuple" "tuple" = some true by decide +kernel), q1 xs ⟨a, rfl, h⟩⟩
    · exact ⟨_, _, _, _, _, rfl, .ty "tuple", .base (.dK h), kit_ty (show kitB "dict" "tuple" = some false by decide +kernel), q2 fun _ ⟨_, e, h2⟩ => by cases e; rw [h] at h2; cases h2⟩
  | byt _ => exact k.elim
  | flt _ => exact k.elim
  | ty _ => exact k.elim
/-- .. and where it is a tuple, its members are of known kinds too -/
def Kn2 (H : Hp) (v : V) : Prop := Kn H v ∧ ∀ xs, TupV H v xs → ∀ x ∈ xs, Kn H x
/-- grounds, numbers -/
def GroundV (v : V) : Prop := ∃ n, v = .int n ∧ 0 ≤ n ∧ n ≤ 9999 ∧ (n = 0 ∨ PrimeI n)
def belowB (v : V) (l : Int) : Bool := match v with
  | .int i => decide (-l < i ∧ i < l)
  | _ => false
def NumV (H : Hp) (g : Int) (v : V) (l : Int) : Prop :=
  (g ≠ 0 ∧ ∃ n, v = .int n ∧ 0 ≤ n ∧ n < g) ∨ (g = 0 ∧ ∃ t b : Int, TupV H v [.int t, .int b] ∧ (-l < t ∧ t < l) ∧ (-l < b ∧ b < l) ∧ 1 ≤ b ∧ Nat.gcd t.natAbs b.natAbs = 1)
theorem belowB_int {v : V} {l : Int} (h : belowB v l = true) : ∃ i, v = .int i ∧ -l < i ∧ i < l := by
  cases v <;> simp only [belowB, Bool.false_eq_true, decide_eq_true_eq] at h
  exact ⟨_, rfl, h⟩
def RaiseN (K : PySem.W.Frag) (E : XK) (H : Hp) (v : V) : Prop := ∀ d, H d = none → E (.ref (He.ga K "InvalidNumber")) (some d) (upd H d (.xd [("given", v)]))
def OutI (v : V) (lo hi : Int) : Prop := ∀ n, v = .int n → n < lo ∨ hi < n
/-! ### is_int -/
theorem sc_is_int : FnScope ["value"] ["value"] (defScope s_is_int) := ⟨rfl, rfl, rfl, by decide +kernel, rfl, by decide +kernel, by decide +kernel⟩
def sp_is_int (K : PySem.W.Frag) : Sp := fun vs H Q _ => ∃ v : V, vs = [v] ∧ Kn H v ∧ Q (.bl (isI v)) H
theorem len_is_int {K : PySem.W.Frag} {vs : List V} {H : Hp} {Q : VK} {E : XK} (h : sp_is_int K vs H Q E) : vs.length = ["value"].length := by
  obtain ⟨_, rfl, _⟩ := h
  rfl
def t_is_int (K : PySem.W.Frag) : TS := (tRet (tAndV (tCB (rIsi K) (tCons (tVar 0) (tCons (tC (.ty "int")) tNil))) (tNotV (tCB (rIsi K) (tCons (tVar 0) (tCons (tC (.ty "bool")) tNil))))))
theorem pure_is_int (K : PySem.W.Frag) (vs : List V) (H : Hp) (Q : VK) (E : XK) (h : sp_is_int K vs H Q E) : t_is_int K { nx := fun _ H' => Q .non H', rt := Q } (start ["value"] vs) H := by
  obtain ⟨v, rfl, hk, hq⟩ := h
  unfold t_is_int
  walk_at "z"
  refine isi_kn_int hk ?_
  walk_at "z"
  by_cases h1 : (isI v || isB v) = true
  · rw [if_pos h1]
    refine isi_kn_bool hk ?_
    walk_at "z"
    have e : (!isB v) = isI v := by cases v <;> simp_all [isI, isB]
    rw [e]
    exact hq
  · rw [if_neg h1]
    have e : isI v = false := by cases v <;> simp_all [isI, isB]
    rw [e] at hq
    exact hq
theorem ok_is_int {P : Program} {w : World} {K : PySem.W.Frag} {mg : Str → Option Value} {base : Heap} (T : Tx K mg) : Okk P w K mg base 1 "is_int" ["value"] (sp_is_int K) := by
  have hf_bool := T.n_bool
  have hf_int := T.n_int
  have hf_isinstance := T.n_isinstance
  obtain ⟨fd, F⟩ := T.f_is_int
  refine ⟨fd, F.ok sc_is_int (fun vs H Q E h => len_is_int h) (fun cdv A outer s H vs Q E hr h => ⟨t_is_int K, PSs.nox ?_, pure_is_int K vs H Q E h⟩), F.bindsN (fun _ _ _ _ _ _ us hl => match us, hl with | [_], _ => rfl), T.g_is_int, F.kp⟩
  exact (pss_one (ps_ret (pe_and (pe_callB call_isi (by rfl) hf_isinstance (by decide +kernel) (pa_cons (pv 0) (pa_cons (pe_bltn (v := .ty "int") rfl hf_int (by decide +kernel) rfl) pa_nil))) (pe_one (pe_not (pe_callB call_isi (by rfl) hf_isinstance (by decide +kernel) (pa_cons (pv 0) (pa_cons (pe_bltn (v := .ty "bool") rfl hf_bool (by decide +kernel) rfl) pa_nil))))))))
/-! ### has_no_parts -/
theorem sc_has_no_parts : FnScope ["number", "divisor"] ["number"] (defScope s_has_no_parts) := ⟨rfl, rfl, rfl, by decide +kernel, rfl, by decide +kernel, by decide +kernel⟩
def sp_has_no_parts (K : PySem.W.Frag) : Sp := fun vs H Q _ => ∃ n : Int, vs = [.int n] ∧ n < 2 ^ 40 ∧ ∀ b : Bool, (b = true ↔ PrimeI n) → Q (.bl b) H
theorem len_has_no_parts {K : PySem.W.Frag} {vs : List V} {H : Hp} {Q : VK} {E : XK} (h : sp_has_no_parts K vs H Q E) : vs.length = ["number"].length := by
  obtain ⟨_, rfl, _⟩ := h
  rfl
def t_has_no_parts_w1_c (K : PySem.W.Frag) : TT := (tAnd (tTest (tOp rLeI (tOp rMulU (tVar 1) (tVar 1)) (tVar 0))) (tTest (tOp rNe (tOp rModU (tVar 0) (tVar 1)) (tC (.int 0)))))
def t_has_no_parts_w1_b (K : PySem.W.Frag) : TS := (tAug 1 (tC (.int 2)) (ipI fun i j => i + j))
def t_has_no_parts (K : PySem.W.Frag) : TS := (tSeq (tIfS (tOr (tTest (tOp rLtI (tVar 0) (tC (.int 4)))) (tTest (tOp rEq (tOp rModU (tVar 0) (tC (.int 2))) (tC (.int 0))))) (tRet (tInT false (tVar 0) (tCons (tC (.int 2)) (tCons (tC (.int 3)) tNil)))) tNext)
  (tSeq (tAsg (tC (.int 3)) (gName 1))
  (tSeq (tWhile (t_has_no_parts_w1_c K) (t_has_no_parts_w1_b K))
  (tRet (tOp rGtI (tOp rMulU (tVar 1) (tVar 1)) (tVar 0))))))
theorem pure_has_no_parts (K : PySem.W.Frag) (vs : List V) (H : Hp) (Q : VK) (E : XK) (h : sp_has_no_parts K vs H Q E) : t_has_no_parts K { nx := fun _ H' => Q .non H', rt := Q } (start ["number", "divisor"] vs) H := by
  obtain ⟨n, rfl, hn2, hq⟩ := h
  unfold t_has_no_parts
  walk_at "z"
  have small : (n < 4 ∨ n % 2 = 0) → Q (.bl (inV (.int n) [.int 2, .int 3])) H := fun hs => by
    refine hq _ ?_
    rw [in_twothree, decide_eq_true_eq]
    constructor
    · rintro (rfl | rfl)
      · exact prime_two
      · exact prime_three
    · rintro ⟨h1, h2⟩
      by_cases e : n % 2 = 0
      · by_cases e2 : n = 2
        · exact .inl e2
        · exact absurd (show (2 : Int) ∣ n by omega) (h2 2 (by omega) (by omega))
      · omega
  by_cases h4 : n < 4
  · rw [if_pos h4]
    exact ⟨by decide, rfl, rfl, small (.inl h4)⟩
  rw [if_neg h4]
  walk_at "z"
  refine ⟨by decide, ?_⟩
  by_cases h2 : n % 2 = 0
  · rw [if_pos h2]
    exact ⟨by decide, rfl, rfl, small (.inr h2)⟩
  rw [if_neg h2]
  refine while_of (fun m σ H' => ∃ d : Int, σ = [some (.int n), some (.int d)] ∧ H' = H ∧ 3 ≤ d ∧ d % 2 = 1 ∧ (∀ k, 2 ≤ k → k < d → ¬ k ∣ n) ∧ d < 2 ^ 41 ∧ m = (2 ^ 42 - d).toNat) (2 ^ 42 - 3) ⟨3, rfl, rfl, by omega, by omega, fun k h1 h3 => by
      obtain rfl : k = 2 := by omega
      omega, by omega, by decide⟩ ?_
  rintro m σ H' ⟨d, rfl, rfl, hd, hodd, hk, hd2, rfl⟩ N hN hN2
  unfold t_has_no_parts_w1_c t_has_no_parts_w1_b
  walk_at "z"
  refine ⟨mulS (by omega), ?_⟩
  by_cases hdd : d * d ≤ n
  · rw [if_pos hdd]
    walk_at "z"
    refine ⟨by omega, ?_⟩
    have hdn : d < n := by
      have := Int.mul_le_mul_of_nonneg_right (show (3:Int) ≤ d by omega) (show (0:Int) ≤ d by omega)
      omega
    by_cases hm : n % d = 0
    · rw [if_neg (by omega)]
      walk_at "z"
      refine ⟨mulS (by omega), hq _ ⟨fun h => ?_, fun h => absurd (Int.dvd_of_emod_eq_zero hm) (h.2 d (by omega) hdn)⟩⟩
      rw [decide_eq_true_eq] at h
      omega
    · rw [if_pos hm]
      refine ⟨N, hN2, ?_⟩
      walk_at "z"
      have hlt : d < 2 ^ 20 + 2 := by
        by_cases q : d < 2 ^ 20 + 2
        · exact q
        · have := Int.mul_le_mul (show (2 ^ 20 + 2 : Int) ≤ d by omega) (show (2 ^ 20 + 2 : Int) ≤ d by omega) (by omega) (by omega)
          omega
      refine hN _ _ _ (by omega) ⟨d + 2, rfl, rfl, by omega, by omega, fun k h1 h3 => ?_, by omega, rfl⟩
      by_cases e1 : k < d
      · exact hk k h1 e1
      · by_cases e2 : k = d
        · subst e2
          intro hx
          exact hm (Int.emod_eq_zero_of_dvd hx)
        · obtain rfl : k = d + 1 := by omega
          intro hx
          have : (2 : Int) ∣ n := Int.dvd_trans (by omega) hx
          omega
  · rw [if_neg hdd]
    walk_at "z"
    refine ⟨mulS (by omega), hq _ ⟨fun _ => ?_, fun _ => decide_eq_true (by omega)⟩⟩
    have := least_self (by omega) hk (by omega) (by omega)
    exact ⟨this.1, this.2.2⟩

theorem ok_has_no_parts {P : Program} {w : World} {K : PySem.W.Frag} {mg : Str → Option Value} {base : Heap} (T : Tx K mg) : Okk P w K mg base 1 "has_no_parts" ["number"] (sp_has_no_parts K) := by
  obtain ⟨fd, F⟩ := T.f_has_no_parts
  refine ⟨fd, F.ok sc_has_no_parts (fun vs H Q E h => len_has_no_parts h) (fun cdv A outer s H vs Q E hr h => ⟨t_has_no_parts K, PSs.nox ?_, pure_has_no_parts K vs H Q E h⟩), F.bindsN (fun _ _ _ _ _ _ us hl => match us, hl with | [_], _ => rfl), T.g_has_no_parts, F.kp⟩
  exact (pss_cons (ps_if (PW.pt (pw_or (pt_cmpR op_lt (pv 0) pe_int (nomark _)) (pw_or1 (pt_cmpR op_eq (pe_op op_mod (pv 0) pe_int) pe_int (nomark _))))) (pss_one (ps_ret (pe_inT (pv 0) (pa_cons pe_int (pa_cons pe_int pa_nil)) rfl))) pss_nil)
      (pss_cons (ps_set (i := 1) sc_has_no_parts.nd rfl (by first | exact Or.inl rfl | exact Or.inr rfl) pe_int)
      (pss_cons (ps_while PassesOwn.never (PW.pt (pw_and (pt_cmpR op_le (pe_op op_mulU (pv 1) (pv 1)) (pv 0) (nomark _)) (pw_and1 (pt_cmpR op_ne (pe_op op_mod (pv 0) (pv 1)) pe_int (nomark _))))) (pss_one (ps_aug (i := 1) sc_has_no_parts.nd rfl (by first | exact Or.inl rfl | exact Or.inr rfl) pe_int ip_add)))
      (pss_one (ps_ret (pe_cmpR op_gt (pe_op op_mulU (pv 1) (pv 1)) (pv 0) (nomark _)))))))
/-! ### power_modulo -/
theorem sc_power_modulo : FnScope ["number", "exponent", "modulus", "result", "base"] ["number", "exponent", "modulus"] (defScope s_power_modulo) := ⟨rfl, rfl, rfl, by decide +kernel, rfl, by decide +kernel, by decide +kernel⟩
def sp_power_modulo (K : PySem.W.Frag) : Sp := fun vs H Q _ => ∃ b e m : Int, vs = [.int b, .int e, .int m] ∧ 0 ≤ e ∧ 0 < m ∧ m < 2 ^ 60 ∧ Q (.int (b ^ e.toNat % m)) H
theorem len_power_modulo {K : PySem.W.Frag} {vs : List V} {H : Hp} {Q : VK} {E : XK} (h : sp_power_modulo K vs H Q E) : vs.length = ["number", "exponent", "modulus"].length := by
  obtain ⟨_, _, _, rfl, _⟩ := h
  rfl
def t_power_modulo_w1_c (K : PySem.W.Frag) : TT := (tTest (tOp rGtI (tVar 1) (tC (.int 0))))
def t_power_modulo_w1_b (K : PySem.W.Frag) : TS := (tSeq (tIfS (tTest (tOp rEq (tOp rModU (tVar 1) (tC (.int 2))) (tC (.int 1)))) (tAsg (tOp rModU (tOp rMulU (tVar 3) (tVar 4)) (tVar 2)) (gName 3)) tNext)
  (tSeq (tAsg (tOp rModU (tOp rMulU (tVar 4) (tVar 4)) (tVar 2)) (gName 4))
  (tAsg (tOp rDivU (tVar 1) (tC (.int 2))) (gName 1))))
def t_power_modulo (K : PySem.W.Frag) : TS := (tSeq (tAsg (tOp rModU (tC (.int 1)) (tVar 2)) (gName 3))
  (tSeq (tAsg (tOp rModU (tVar 0) (tVar 2)) (gName 4))
  (tSeq (tWhile (t_power_modulo_w1_c K) (t_power_modulo_w1_b K))
  (tRet (tVar 3)))))
theorem pm_start {b m : Int} {e : Nat} : 1 % m * (b % m) ^ e % m = b ^ e % m := by
  rw [Int.mul_emod, pow_emod, emod_emod', ← Int.mul_emod, Int.one_mul]
theorem pm_even {r x m : Int} {e : Nat} (h : e % 2 = 0) : r * (x * x % m) ^ (e / 2) % m = r * x ^ e % m := by
  have e2 : x ^ e = (x * x) ^ (e / 2) := by rw [← pow_two_mul]; congr 1; omega
  rw [Int.mul_emod, pow_emod, ← Int.mul_emod, e2]
theorem pm_odd {r x m : Int} {e : Nat} (h : e % 2 = 1) : (r * x % m) * (x * x % m) ^ (e / 2) % m = r * x ^ e % m := by
  have e2 : x ^ e = x * (x * x) ^ (e / 2) := by
    rw [← pow_two_mul, Int.mul_comm, ← Int.pow_succ]; congr 1; omega
  rw [Int.mul_emod, pow_emod, emod_emod', ← Int.mul_emod, e2, Int.mul_assoc]
theorem half_toNat {e : Int} (h : 0 ≤ e) : (e / 2).toNat = e.toNat / 2 := by omega
theorem pure_power_modulo (K : PySem.W.Frag) (vs : List V) (H : Hp) (Q : VK) (E : XK) (h : sp_power_modulo K vs H Q E) : t_power_modulo K { nx := fun _ H' => Q .non H', rt := Q } (start ["number", "exponent", "modulus", "result", "base"] vs) H := by
  obtain ⟨b, e, m, rfl, he, hm, hm2, hq⟩ := h
  unfold t_power_modulo
  walk_at "z"
  refine ⟨hm, hm, ?_⟩
  refine while_of (fun μ σ H' => ∃ r x ee y : Int, σ = [some (.int y), some (.int ee), some (.int m), some (.int r), some (.int x)] ∧ H' = H ∧ 0 ≤ ee ∧ μ = ee.toNat ∧ 0 ≤ r ∧ r < m ∧ 0 ≤ x ∧ x < m ∧ r * x ^ ee.toNat % m = b ^ e.toNat % m) e.toNat ⟨1 % m, b % m, e, b, rfl, rfl, he, rfl, Int.emod_nonneg _ (by omega), Int.emod_lt_of_pos _ hm, Int.emod_nonneg _ (by omega), Int.emod_lt_of_pos _ hm, pm_start⟩ ?_
  rintro μ σ H' ⟨r, x, ee, y, rfl, rfl, hee, rfl, hr0, hr1, hx0, hx1, hinv⟩ N hN hN2
  unfold t_power_modulo_w1_c t_power_modulo_w1_b
  walk_at "z"
  by_cases h0 : 0 < ee
  · rw [if_pos h0]
    refine ⟨N, hN2, ?_⟩
    walk_at "z"
    refine ⟨by omega, ?_⟩
    have xx : 0 ≤ x * x % m ∧ x * x % m < m := ⟨Int.emod_nonneg _ (by omega), Int.emod_lt_of_pos _ hm⟩
    by_cases h1 : ee % 2 = 1
    · rw [if_pos h1]
      refine ⟨mulS (by omega), hm, mulS (by omega), hm, divS (by omega) (by omega), hN _ _ _ (by omega) ⟨_, _, _, _, rfl, rfl, by omega, rfl, Int.emod_nonneg _ (by omega), Int.emod_lt_of_pos _ hm, xx.1, xx.2, ?_⟩⟩
      rw [half_toNat hee, pm_odd (by omega), hinv]
    · rw [if_neg h1]
      refine ⟨mulS (by omega), hm, divS (by omega) (by omega), hN _ _ _ (by omega) ⟨_, _, _, _, rfl, rfl, by omega, rfl, hr0, hr1, xx.1, xx.2, ?_⟩⟩
      rw [half_toNat hee, pm_even (by omega), hinv]
  · rw [if_neg h0]
    obtain rfl : ee = 0 := by omega
    have e0 : r * x ^ (0 : Int).toNat % m = r := by
      show r * x ^ 0 % m = r
      rw [Int.pow_zero, Int.mul_one, emod_small hr0 hr1]
    rw [← hinv, e0] at hq
    exact hq
theorem ok_power_modulo {P : Program} {w : World} {K : PySem.W.Frag} {mg : Str → Option Value} {base : Heap} (T : Tx K mg) : Okk P w K mg base 1 "power_modulo" ["number", "exponent", "modulus"] (sp_power_modulo K) := by
  obtain ⟨fd, F⟩ := T.f_power_modulo
  refine ⟨fd, F.ok sc_power_modulo (fun vs H Q E h => len_power_modulo h) (fun cdv A outer s H vs Q E hr h => ⟨t_power_modulo K, PSs.nox ?_, pure_power_modulo K vs H Q E h⟩), F.bindsN (fun _ _ _ _ _ _ us hl => match us, hl with | [_, _, _], _ => rfl), T.g_power_modulo, F.kp⟩
  exact (pss_cons (ps_set (i := 3) sc_power_modulo.nd rfl (by first | exact Or.inl rfl | exact Or.inr rfl) (pe_op op_mod pe_int (pv 2)))
      (pss_cons (ps_set (i := 4) sc_power_modulo.nd rfl (by first | exact Or.inl rfl | exact Or.inr rfl) (pe_op op_mod (pv 0) (pv 2)))
      (pss_cons (ps_while PassesOwn.never (pt_cmpR op_gt (pv 1) pe_int (nomark _)) (pss_cons (ps_if (pt_cmpR op_eq (pe_op op_mod (pv 1) pe_int) pe_int (nomark _)) (pss_one (ps_set (i := 3) sc_power_modulo.nd rfl (by first | exact Or.inl rfl | exact Or.inr rfl) (pe_op op_mod (pe_op op_mulU (pv 3) (pv 4)) (pv 2)))) pss_nil)
      (pss_cons (ps_set (i := 4) sc_power_modulo.nd rfl (by first | exact Or.inl rfl | exact Or.inr rfl) (pe_op op_mod (pe_op op_mulU (pv 4) (pv 4)) (pv 2)))
      (pss_one (ps_set (i := 1) sc_power_modulo.nd rfl (by first | exact Or.inl rfl | exact Or.inr rfl) (pe_op op_fdivW (pv 1) pe_int))))))
      (pss_one (ps_ret (pv 3))))))
/-! ### integer_power -/
theorem sc_integer_power : FnScope ["number", "exponent", "result", "base"] ["number", "exponent"] (defScope s_integer_power) := ⟨rfl, rfl, rfl, by decide +kernel, rfl, by decide +kernel, by decide +kernel⟩
def sp_integer_power (K : PySem.W.Frag) : Sp := fun vs H Q _ => ∃ b e : Int, vs = [.int b, .int e] ∧ 0 ≤ e ∧ 1 ≤ b ∧ b ^ e.toNat < 2 ^ 62 ∧ b < 2 ^ 62 ∧ Q (.int (b ^ e.toNat)) H
theorem len_integer_power {K : PySem.W.Frag} {vs : List V} {H : Hp} {Q : VK} {E : XK} (h : sp_integer_power K vs H Q E) : vs.length = ["number", "exponent"].length := by
  obtain ⟨_, _, rfl, _⟩ := h
  rfl
def t_integer_power_w1_c (K : PySem.W.Frag) : TT := (tTest (tOp rGtI (tVar 1) (tC (.int 0))))
def t_integer_power_w1_b (K : PySem.W.Frag) : TS := (tSeq (tIfS (tTest (tOp rEq (tOp rModU (tVar 1) (tC (.int 2))) (tC (.int 1)))) (tAsg (tOp rMulU (tVar 2) (tVar 3)) (gName 2)) tNext)
  (tSeq (tAsg (tOp rDivU (tVar 1) (tC (.int 2))) (gName 1))
  (tIfS (tTest (tOp rGtI (tVar 1) (tC (.int 0)))) (tAsg (tOp rMulU (tVar 3) (tVar 3)) (gName 3)) tNext)))
def t_integer_power (K : PySem.W.Frag) : TS := (tSeq (tAsg (tC (.int 1)) (gName 2))
  (tSeq (tAsg (tVar 0) (gName 3))
  (tSeq (tWhile (t_integer_power_w1_c K) (t_integer_power_w1_b K))
  (tRet (tVar 2)))))
theorem ipow_pos {b : Int} (h : 1 ≤ b) (k : Nat) : 1 ≤ b ^ k := by
  induction k with
  | zero => rw [Int.pow_zero]; omega
  | succ k ih =>
    rw [Int.pow_succ]
    have := Int.mul_le_mul ih h (by omega) (by omega)
    omega
theorem ipow_le {b : Int} (h : 1 ≤ b) {j k : Nat} (hk : j ≤ k) : b ^ j ≤ b ^ k := by
  obtain ⟨d, rfl⟩ : ∃ d, k = j + d := ⟨k - j, by omega⟩
  rw [Int.pow_add]
  have h1 := ipow_pos h j
  have h2 := ipow_pos h d
  have := Int.mul_le_mul (Int.le_refl (b ^ j)) h2 (by omega) (by omega)
  omega
theorem le_prod {r p : Int} (hr : 1 ≤ r) (hp : 1 ≤ p) : r ≤ r * p ∧ p ≤ r * p := by
  have h1 := Int.mul_le_mul (Int.le_refl r) hp (by omega) (by omega)
  have h2 := Int.mul_le_mul hr (Int.le_refl p) (by omega) (by omega)
  omega
theorem pure_integer_power (K : PySem.W.Frag) (vs : List V) (H : Hp) (Q : VK) (E : XK) (h : sp_integer_power K vs H Q E) : t_integer_power K { nx := fun _ H' => Q .non H', rt := Q } (start ["number", "exponent", "result", "base"] vs) H := by
  obtain ⟨b, e, rfl, he, hb, hs, hs2, hq⟩ := h
  unfold t_integer_power
  walk_at "z"
  refine while_of (fun μ σ H' => ∃ r x ee y : Int, σ = [some (.int y), some (.int ee), some (.int r), some (.int x)] ∧ H' = H ∧ 0 ≤ ee ∧ μ = ee.toNat ∧ 1 ≤ r ∧ 1 ≤ x ∧ r * x ^ ee.toNat = b ^ e.toNat ∧ x < 2 ^ 62) e.toNat ⟨1, b, e, b, rfl, rfl, he, rfl, by omega, hb, by rw [Int.one_mul], hs2⟩ ?_
  rintro μ σ H' ⟨r, x, ee, y, rfl, rfl, hee, rfl, hr0, hx0, hinv, hx2⟩ N hN hN2
  unfold t_integer_power_w1_c t_integer_power_w1_b
  walk_at "z"
  by_cases h0 : 0 < ee
  · rw [if_pos h0]
    refine ⟨N, hN2, ?_⟩
    walk_at "z"
    have hp := ipow_pos hx0 ee.toNat
    have hle := le_prod hr0 hp
    have hxe : x ^ 1 ≤ x ^ ee.toNat := ipow_le hx0 (by omega)
    rw [Int.pow_succ, Int.pow_zero, Int.one_mul] at hxe
    refine ⟨by omega, ?_⟩
    -- x * x is at most x ^ ee where ee is at least 2
    have hxx : 2 ≤ ee → x * x ≤ x ^ ee.toNat := fun h2 => by
      have := ipow_le hx0 (show 2 ≤ ee.toNat by omega)
      rw [Int.pow_succ, Int.pow_succ, Int.pow_zero, Int.one_mul] at this
      exact this
    have half : ∀ h2 : 0 < ee / 2, (x * x) ^ (ee / 2).toNat = x ^ (2 * (ee.toNat / 2)) := fun _ => by rw [pow_two_mul, half_toNat hee]
    have pos2 := le_prod hx0 hx0
    by_cases h1 : ee % 2 = 1
    · rw [if_pos h1]
      refine ⟨mulS (by omega), divS (by omega) (by omega), ?_⟩
      have hrx := le_prod hr0 hx0
      by_cases h3 : 0 < ee / 2
      · rw [if_pos h3]
        have := hxx (by omega)
        refine ⟨mulS (by omega), hN _ _ _ (by omega) ⟨_, _, _, _, rfl, rfl, by omega, rfl, by omega, by omega, ?_, by omega⟩⟩
        rw [half h3, ← hinv, Int.mul_assoc]
        congr 1
        rw [Int.mul_comm, ← Int.pow_succ]
        congr 1
        omega
      · rw [if_neg h3]
        refine hN _ _ _ (by omega) ⟨_, _, _, _, rfl, rfl, by omega, rfl, by omega, by omega, ?_, by omega⟩
        have e1 : ee = 1 := by omega
        subst e1
        rw [← hinv]
        show r * x * x ^ 0 = r * x ^ 1
        rw [Int.pow_zero, Int.mul_one, Int.pow_succ, Int.pow_zero, Int.one_mul]
    · rw [if_neg h1]
      refine ⟨divS (by omega) (by omega), ?_⟩
      have h3 : 0 < ee / 2 := by omega
      rw [if_pos h3]
      have := hxx (by omega)
      refine ⟨mulS (by omega), hN _ _ _ (by omega) ⟨_, _, _, _, rfl, rfl, by omega, rfl, by omega, by omega, ?_, by omega⟩⟩
      rw [half h3, ← hinv]
      congr 1
      congr 1
      omega
  · rw [if_neg h0]
    obtain rfl : ee = 0 := by omega
    have e0 : r * x ^ (0 : Int).toNat = r := by
      show r * x ^ 0 = r
      rw [Int.pow_zero, Int.mul_one]
    rw [← hinv, e0] at hq
    exact hq
theorem ok_integer_power {P : Program} {w : World} {K : PySem.W.Frag} {mg : Str → Option Value} {base : Heap} (T : Tx K mg) : Okk P w K mg base 1 "integer_power" ["number", "exponent"] (sp_integer_power K) := by
  obtain ⟨fd, F⟩ := T.f_integer_power
  refine ⟨fd, F.ok sc_integer_power (fun vs H Q E h => len_integer_power h) (fun cdv A outer s H vs Q E hr h => ⟨t_integer_power K, PSs.nox ?_, pure_integer_power K vs H Q E h⟩), F.bindsN (fun _ _ _ _ _ _ us hl => match us, hl with | [_, _], _ => rfl), T.g_integer_power, F.kp⟩
  exact (pss_cons (ps_set (i := 2) sc_integer_power.nd rfl (by first | exact Or.inl rfl | exact Or.inr rfl) pe_int)
      (pss_cons (ps_set (i := 3) sc_integer_power.nd rfl (by first | exact Or.inl rfl | exact Or.inr rfl) (pv 0))
      (pss_cons (ps_while PassesOwn.never (pt_cmpR op_gt (pv 1) pe_int (nomark _)) (pss_cons (ps_if (pt_cmpR op_eq (pe_op op_mod (pv 1) pe_int) pe_int (nomark _)) (pss_one (ps_set (i := 2) sc_integer_power.nd rfl (by first | exact Or.inl rfl | exact Or.inr rfl) (pe_op op_mulU (pv 2) (pv 3)))) pss_nil)
      (pss_cons (ps_set (i := 1) sc_integer_power.nd rfl (by first | exact Or.inl rfl | exact Or.inr rfl) (pe_op op_fdivW (pv 1) pe_int))
      (pss_one (ps_if (pt_cmpR op_gt (pv 1) pe_int (nomark _)) (pss_one (ps_set (i := 3) sc_integer_power.nd rfl (by first | exact Or.inl rfl | exact Or.inr rfl) (pe_op op_mulU (pv 3) (pv 3)))) pss_nil)))))
      (pss_one (ps_ret (pv 2))))))
/-! ### least_divisor -/
theorem sc_least_divisor : FnScope ["number", "divisor"] ["number"] (defScope s_least_divisor) := ⟨rfl, rfl, rfl, by decide +kernel, rfl, by decide +kernel, by decide +kernel⟩
def sp_least_divisor (K : PySem.W.Frag) : Sp := fun vs H Q _ => ∃ n : Int, vs = [.int n] ∧ 2 ≤ n ∧ n < 2 ^ 40 ∧ ∀ d, Least d n → d ≤ n → Q (.int d) H
theorem len_least_divisor {K : PySem.W.Frag} {vs : List V} {H : Hp} {Q : VK} {E : XK} (h : sp_least_divisor K vs H Q E) : vs.length = ["number"].length := by
  obtain ⟨_, rfl, _⟩ := h
  rfl
def t_least_divisor_w1_c (K : PySem.W.Frag) : TT := (tTest (tOp rLeI (tOp rMulU (tVar 1) (tVar 1)) (tVar 0)))
def t_least_divisor_w1_b (K : PySem.W.Frag) : TS := (tSeq (tIfS (tTest (tOp rEq (tOp rModU (tVar 0) (tVar 1)) (tC (.int 0)))) (tRet (tVar 1)) tNext)
  (tAug 1 (tC (.int 2)) (ipI fun i j => i + j)))
def t_least_divisor (K : PySem.W.Frag) : TS := (tSeq (tIfS (tTest (tOp rEq (tOp rModU (tVar 0) (tC (.int 2))) (tC (.int 0)))) (tRet (tC (.int 2))) tNext)
  (tSeq (tAsg (tC (.int 3)) (gName 1))
  (tSeq (tWhile (t_least_divisor_w1_c K) (t_least_divisor_w1_b K))
  (tRet (tVar 0)))))
theorem pure_least_divisor (K : PySem.W.Frag) (vs : List V) (H : Hp) (Q : VK) (E : XK) (h : sp_least_divisor K vs H Q E) : t_least_divisor K { nx := fun _ H' => Q .non H', rt := Q } (start ["number", "divisor"] vs) H := by
  obtain ⟨n, rfl, hn, hn2, hq⟩ := h
  unfold t_least_divisor
  walk_at "z"
  refine ⟨by decide, ?_⟩
  by_cases h2 : n % 2 = 0
  · rw [if_pos h2]
    exact hq 2 (least_two h2) (by omega)
  · rw [if_neg h2]
    refine while_of (fun m σ H' => ∃ d : Int, σ = [some (.int n), some (.int d)] ∧ H' = H ∧ 3 ≤ d ∧ d % 2 = 1 ∧ (∀ k, 2 ≤ k → k < d → ¬ k ∣ n) ∧ d < 2 ^ 41 ∧ m = (2 ^ 42 - d).toNat) (2 ^ 42 - 3) ⟨3, rfl, rfl, by omega, by omega, fun k h1 h3 => by
      obtain rfl : k = 2 := by omega
      omega, by omega, by decide⟩ ?_
    rintro m σ H' ⟨d, rfl, rfl, hd, hodd, hk, hd2, rfl⟩ N hN hN2
    unfold t_least_divisor_w1_c t_least_divisor_w1_b
    walk_at "z"
    refine ⟨mulS (by omega), ?_⟩
    by_cases hdd : d * d ≤ n
    · rw [if_pos hdd]
      refine ⟨N, hN2, ?_⟩
      walk_at "z"
      refine ⟨by omega, ?_⟩
      by_cases hm : n % d = 0
      · rw [if_pos hm]
        have hdn : d ≤ n := by
          have := Int.mul_le_mul_of_nonneg_right (show (1:Int) ≤ d by omega) (show (0:Int) ≤ d by omega)
          omega
        exact hq d ⟨by omega, Int.dvd_of_emod_eq_zero hm, hk⟩ hdn
      · rw [if_neg hm]
        have hlt : d < 2 ^ 20 + 2 := by
          by_cases q : d < 2 ^ 20 + 2
          · exact q
          · have := Int.mul_le_mul (show (2 ^ 20 + 2 : Int) ≤ d by omega) (show (2 ^ 20 + 2 : Int) ≤ d by omega) (by omega) (by omega)
            omega
        refine hN _ _ _ (by omega) ⟨d + 2, rfl, rfl, by omega, by omega, fun k h1 h3 => ?_, by omega, rfl⟩
        by_cases e1 : k < d
        · exact hk k h1 e1
        · by_cases e2 : k = d
          · subst e2
            intro hx
            exact hm (Int.emod_eq_zero_of_dvd hx)
          · obtain rfl : k = d + 1 := by omega
            intro hx
            have : (2 : Int) ∣ n := Int.dvd_trans (by omega) hx
            omega
    · rw [if_neg hdd]
      exact hq n (least_self hn hk (by omega) (by omega)) (Int.le_refl n)
theorem ok_least_divisor {P : Program} {w : World} {K : PySem.W.Frag} {mg : Str → Option Value} {base : Heap} (T : Tx K mg) : Okk P w K mg base 1 "least_divisor" ["number"] (sp_least_divisor K) := by
  obtain ⟨fd, F⟩ := T.f_least_divisor
  refine ⟨fd, F.ok sc_least_divisor (fun vs H Q E h => len_least_divisor h) (fun cdv A outer s H vs Q E hr h => ⟨t_least_divisor K, PSs.nox ?_, pure_least_divisor K vs H Q E h⟩), F.bindsN (fun _ _ _ _ _ _ us hl => match us, hl with | [_], _ => rfl), T.g_least_divisor, F.kp⟩
  exact (pss_cons (ps_if (pt_cmpR op_eq (pe_op op_mod (pv 0) pe_int) pe_int (nomark _)) (pss_one (ps_ret pe_int)) pss_nil)
      (pss_cons (ps_set (i := 1) sc_least_divisor.nd rfl (by first | exact Or.inl rfl | exact Or.inr rfl) pe_int)
      (pss_cons (ps_while PassesOwn.never (pt_cmpR op_le (pe_op op_mulU (pv 1) (pv 1)) (pv 0) (nomark _)) (pss_cons (ps_if (pt_cmpR op_eq (pe_op op_mod (pv 0) (pv 1)) pe_int (nomark _)) (pss_one (ps_ret (pv 1))) pss_nil)
      (pss_one (ps_aug (i := 1) sc_least_divisor.nd rfl (by first | exact Or.inl rfl | exact Or.inr rfl) pe_int ip_add))))
      (pss_one (ps_ret (pv 0))))))
/-! ### prime_powers -/
theorem sc_prime_powers : FnScope ["number", "pairs", "left", "divisor", "often"] ["number"] (defScope s_prime_powers) := ⟨rfl, rfl, rfl, by decide +kernel, rfl, by decide +kernel, by decide +kernel⟩
def sp_prime_powers (K : PySem.W.Frag) : Sp := fun vs H Q _ => ∃ n : Nat, vs = [.int (n : Int)] ∧ 1 ≤ n ∧ n < 2 ^ 40 ∧ ∀ T xs H', Same H H' → H' T = some (.tup xs) → PR H' xs (ppN n) → Q (.ref T) H'
theorem len_prime_powers {K : PySem.W.Frag} {vs : List V} {H : Hp} {Q : VK} {E : XK} (h : sp_prime_powers K vs H Q E) : vs.length = ["number"].length := by
  obtain ⟨_, rfl, _⟩ := h
  rfl
def t_prime_powers_w1_c (K : PySem.W.Frag) : TT := (tTest (tOp rEq (tOp rModU (tVar 2) (tVar 3)) (tC (.int 0))))
def t_prime_powers_w1_b (K : PySem.W.Frag) : TS := (tSeq (tAsg (tOp rDivU (tVar 2) (tVar 3)) (gName 2))
  (tAug 4 (tC (.int 1)) (ipI fun i j => i + j)))
def t_prime_powers_w2_c (K : PySem.W.Frag) : TT := (tTest (tOp rLeI (tOp rMulU (tVar 3) (tVar 3)) (tVar 2)))
def t_prime_powers_w2_b (K : PySem.W.Frag) : TS := (tSeq (tAsg (tC (.int 0)) (gName 4))
  (tSeq (tWhile (t_prime_powers_w1_c K) (t_prime_powers_w1_b K))
  (tSeq (tIfS (tTest (tOp rGtI (tVar 4) (tC (.int 0)))) (tDrop (tBM K "list" rAppend (tVar 1) (tCons (tTup (tCons (tVar 3) (tCons (tVar 4) tNil))) tNil))) tNext)
  (tAug 3 (tIf (tTest (tOp rEq (tVar 3) (tC (.int 2)))) (tC (.int 1)) (tC (.int 2))) (ipI fun i j => i + j)))))
def t_prime_powers (K : PySem.W.Frag) : TS := (tSeq (tAsg (tLst tNil) (gName 1))
  (tSeq (tAsg (tVar 0) (gName 2))
  (tSeq (tAsg (tC (.int 2)) (gName 3))
  (tSeq (tWhile (t_prime_powers_w2_c K) (t_prime_powers_w2_b K))
  (tSeq (tIfS (tTest (tOp rGtI (tVar 2) (tC (.int 1)))) (tDrop (tBM K "list" rAppend (tVar 1) (tCons (tTup (tCons (tVar 2) (tCons (tC (.int 1)) tNil))) tNil))) tNext)
  (tRet (tCB (rTupOf K) (tCons (tVar 1) tNil))))))))
theorem sq_lt {d l : Nat} (h : d * d ≤ l) (h2 : l < 2 ^ 40) : d < 2 ^ 20 := by
  by_cases q : d < 2 ^ 20
  · exact q
  · have := Nat.mul_le_mul (show 2 ^ 20 ≤ d by omega) (show 2 ^ 20 ≤ d by omega)
    omega
theorem small_size {n : Nat} (h : n < 2 ^ 22) : n < sizeLine := Nat.lt_of_lt_of_le h (by decide)
theorem pure_prime_powers (K : PySem.W.Frag) (vs : List V) (H : Hp) (Q : VK) (E : XK) (h : sp_prime_powers K vs H Q E) : t_prime_powers K { nx := fun _ H' => Q .non H', rt := Q } (start ["number", "pairs", "left", "divisor", "often"] vs) H := by
  obtain ⟨n, rfl, hn, hn2, hq⟩ := h
  unfold t_prime_powers
  walk_at "z"
  refine ⟨Nat.zero_le _, fun P hP => ?_⟩
  refine while_of (fun μ σ H' => ∃ (xs : List V) (acc : List (Nat × Nat)) (l d f : Nat) (o : Option V), σ = [some (.int (n : Int)), some (.ref P), some (.int (l : Int)), some (.int (d : Int)), o] ∧ Same H H' ∧ H' P = some (.lst xs) ∧ PR H' xs acc ∧ 2 ≤ d ∧ 1 ≤ l ∧ l < 2 ^ 40 ∧ d < 2 ^ 20 + 3 ∧ acc.length ≤ d ∧ ppL f d l acc = ppN n ∧ l + 2 ≤ f + d ∧ μ = f) n
    ⟨[], [], n, 2, n, none, rfl, same_upd hP, upd_same, .nil, by omega, hn, hn2, by omega, by simp, rfl, by omega, rfl⟩ ?_
  rintro μ σ H' ⟨xs, acc, l, d, f, o, rfl, hS, hHP, hPR, hd, hl, hl2, hd3, hacc, hpp, hf, rfl⟩ N hN hN2
  unfold t_prime_powers_w2_c t_prime_powers_w2_b
  walk_at "z"
  refine ⟨mulS (by omega), ?_⟩
  have hlen : xs.length < sizeLine := by rw [hPR.len]; exact small_size (by omega)
  by_cases hdd : d * d ≤ l
  · rw [if_pos (by exact_mod_cast hdd)]
    refine ⟨N, hN2, ?_⟩
    walk_at "z"
    have hd20 := sq_lt hdd hl2
    refine while_of (fun μ σ H2 => ∃ (l' o' f' : Nat), σ = [some (.int (n : Int)), some (.ref P), some (.int (l' : Int)), some (.int (d : Int)), some (.int (o' : Int))] ∧ H2 = H' ∧ 1 ≤ l' ∧ l' ≤ l ∧ stripN f' d l' o' = stripN l d l 0 ∧ l' ≤ f' ∧ l' = μ) l
      ⟨l, 0, l, rfl, rfl, hl, Nat.le_refl _, rfl, Nat.le_refl _, rfl⟩ ?_
    rintro μ2 σ2 H2 ⟨l', o', f', rfl, rfl, hl1, hll, hst, hf', rfl⟩ N2 hN3 hN4
    unfold t_prime_powers_w1_c t_prime_powers_w1_b
    walk_at "z"
    refine ⟨by omega, ?_⟩
    obtain ⟨f2, rfl⟩ : ∃ f2, f' = f2 + 1 := ⟨f' - 1, by omega⟩
    by_cases hm : l' % d = 0
    · rw [if_pos (by exact_mod_cast hm)]
      refine ⟨N2, hN4, ?_⟩
      walk_at "z"
      have hdl : d ≤ l' := Nat.le_of_dvd hl1 (Nat.dvd_of_mod_eq_zero hm)
      have h3 : l' / d < l' := Nat.div_lt_self hl1 hd
      have h4 : 1 ≤ l' / d := Nat.div_pos hdl (by omega)
      refine ⟨divS (by omega) (by omega), hN3 _ _ _ h3 ⟨l' / d, o' + 1, f2, by rw [Int.natCast_ediv]; rfl, rfl, h4, by omega, ?_, by omega, rfl⟩⟩
      rw [← hst]
      conv => rhs; unfold stripN
      rw [if_pos hm]
    · rw [if_neg (by exact_mod_cast hm)]
      have hst2 : stripN l d l 0 = (l', o') := by
        rw [← hst]; unfold stripN; rw [if_neg hm]
      have hdl2 : d ≤ d * d := Nat.le_mul_of_pos_right d (by omega)
      obtain ⟨g, rfl⟩ : ∃ g, μ = g + 1 := ⟨μ - 1, by omega⟩
      have hpp2 : ppL g (if d = 2 then d + 1 else d + 2) l' (if 0 < o' then acc ++ [(d, o')] else acc) = ppN n := by
        rw [← hpp]
        conv => rhs; unfold ppL
        rw [if_pos hdd, hst2]
      -- what the turn leaves, for either step of the divisor
      have fin : ∀ (acc2 : List (Nat × Nat)) (xs2 : List V) (H3 : Hp), Same H H3 → H3 P = some (.lst xs2) → PR H3 xs2 acc2 → acc2.length ≤ d + 1 → ppL g (if d = 2 then d + 1 else d + 2) l' acc2 = ppN n →
          if (d : Int) = 2 then N [some (.int (n : Int)), some (.ref P), some (.int (l' : Int)), some (.int ((d : Int) + 1)), some (.int (o' : Int))] H3 else N [some (.int (n : Int)), some (.ref P), some (.int (l' : Int)), some (.int ((d : Int) + 2)), some (.int (o' : Int))] H3 := by
        intro acc2 xs2 H3 s3 p3 r3 l3 e3
        by_cases d2 : d = 2
        · rw [if_pos d2] at e3
          rw [if_pos (by omega)]
          exact hN _ _ _ (by omega) ⟨xs2, acc2, l', d + 1, g, _, rfl, s3, p3, r3, by omega, hl1, by omega, by omega, by omega, e3, by omega, rfl⟩
        · rw [if_neg d2] at e3
          rw [if_neg (by omega)]
          exact hN _ _ _ (by omega) ⟨xs2, acc2, l', d + 2, g, _, rfl, s3, p3, r3, by omega, hl1, by omega, by omega, by omega, e3, by omega, rfl⟩
      by_cases ho : 0 < o'
      · rw [if_pos (by omega)]
        rw [if_pos ho] at hpp2
        refine ⟨tyL hHP, by decide, fun t ht => ?_⟩
        have htP : P ≠ t := ne_of_none hHP ht
        have hP2 : upd H2 t (.tup [.int (d : Int), .int (o' : Int)]) P = some (.lst xs) := by rw [upd_ne htP]; exact hHP
        refine ⟨P, xs, _, rfl, rfl, hP2, hlen, ?_⟩
        walk_at "z"
        refine fin _ _ _ (same_mut (same_new hS ht) hP) upd_same ?_ (by simp; omega) hpp2
        refine Paired.snoc (hPR.mono fun a ys q => ?_) ⟨t, rfl, by rw [upd_ne (Ne.symm htP), upd_same]⟩
        have q1 : a ≠ P := by rintro rfl; rw [hHP] at q; cases q
        rw [upd_ne q1, upd_ne (ne_of_none q ht)]
        exact q
      · rw [if_neg (by omega)]
        rw [if_neg ho] at hpp2
        exact fin _ _ _ hS hHP hPR (by omega) hpp2
  · rw [if_neg (by exact_mod_cast hdd)]
    have hend : endN l acc = ppN n := by
      rw [← hpp]
      cases μ with
      | zero => rfl
      | succ g => unfold ppL; rw [if_neg hdd]
    by_cases h1 : 1 < l
    · rw [if_pos (by omega)]
      refine ⟨tyL hHP, by decide, fun t ht => ?_⟩
      have htP : P ≠ t := ne_of_none hHP ht
      have hP2 : upd H' t (.tup [.int (l : Int), .int 1]) P = some (.lst xs) := by rw [upd_ne htP]; exact hHP
      refine ⟨P, xs, _, rfl, rfl, hP2, hlen, ?_⟩
      walk_at "z"
      have hs2 := same_mut (o := .lst (xs ++ [V.ref t])) (same_new (o := .tup [.int (l : Int), .int 1]) hS ht) hP
      refine ⟨P, _, rfl, .inl ⟨sqL_of upd_same, fun T hT => ?_⟩⟩
      refine hq T _ _ (same_new hs2 hT) upd_same ?_
      rw [← hend]
      unfold endN
      rw [if_pos h1]
      have q0 : ∀ a ys, H' a = some (.tup ys) → upd (upd (upd H' t (.tup [.int (l : Int), .int 1])) P (.lst (xs ++ [V.ref t]))) T (.tup (xs ++ [V.ref t])) a = some (.tup ys) := fun a ys q => by
        have q1 : a ≠ P := by rintro rfl; rw [hHP] at q; cases q
        have q2 : upd (upd H' t (.tup [.int (l : Int), .int 1])) P (.lst (xs ++ [V.ref t])) a = some (.tup ys) := by rw [upd_ne q1, upd_ne (ne_of_none q ht)]; exact q
        rw [upd_ne (ne_of_none q2 hT)]
        exact q2
      refine Paired.snoc (hPR.mono q0) ⟨t, rfl, ?_⟩
      have q2 : upd (upd H' t (.tup [.int (l : Int), .int 1])) P (.lst (xs ++ [V.ref t])) t = some (.tup [.int (l : Int), .int 1]) := by rw [upd_ne (Ne.symm htP), upd_same]
      rw [upd_ne (ne_of_none q2 hT)]
      exact q2
    · rw [if_neg (by omega)]
      walk_at "z"
      refine ⟨P, _, rfl, .inl ⟨sqL_of hHP, fun T hT => ?_⟩⟩
      refine hq T _ _ (same_new hS hT) upd_same ?_
      rw [← hend]
      unfold endN
      rw [if_neg h1]
      exact hPR.mono fun a ys q => by rw [upd_ne (ne_of_none q hT)]; exact q
theorem ok_prime_powers {P : Program} {w : World} {K : PySem.W.Frag} {mg : Str → Option Value} {base : Heap} (T : Tx K mg) : Okk P w K mg base 1 "prime_powers" ["number"] (sp_prime_powers K) := by
  have hf_tuple := T.n_tuple
  obtain ⟨fd, F⟩ := T.f_prime_powers
  refine ⟨fd, F.ok sc_prime_powers (fun vs H Q E h => len_prime_powers h) (fun cdv A outer s H vs Q E hr h => ⟨t_prime_powers K, PSs.nox ?_, pure_prime_powers K vs H Q E h⟩), F.bindsN (fun _ _ _ _ _ _ us hl => match us, hl with | [_], _ => rfl), T.g_prime_powers, F.kp⟩
  exact (pss_cons (ps_set (i := 1) sc_prime_powers.nd rfl (by first | exact Or.inl rfl | exact Or.inr rfl) (pe_lst pa_nil))
      (pss_cons (ps_set (i := 2) sc_prime_powers.nd rfl (by first | exact Or.inl rfl | exact Or.inr rfl) (pv 0))
      (pss_cons (ps_set (i := 3) sc_prime_powers.nd rfl (by first | exact Or.inl rfl | exact Or.inr rfl) pe_int)
      (pss_cons (ps_while PassesOwn.never (pt_cmpR op_le (pe_op op_mulU (pv 3) (pv 3)) (pv 2) (nomark _)) (pss_cons (ps_set (i := 4) sc_prime_powers.nd rfl (by first | exact Or.inl rfl | exact Or.inr rfl) pe_int)
      (pss_cons (ps_while PassesOwn.never (pt_cmpR op_eq (pe_op op_mod (pv 2) (pv 3)) pe_int (nomark _)) (pss_cons (ps_set (i := 2) sc_prime_powers.nd rfl (by first | exact Or.inl rfl | exact Or.inr rfl) (pe_op op_fdivW (pv 2) (pv 3)))
      (pss_one (ps_aug (i := 4) sc_prime_powers.nd rfl (by first | exact Or.inl rfl | exact Or.inr rfl) pe_int ip_add))))
      (pss_cons (ps_if (pt_cmpR op_gt (pv 4) pe_int (nomark _)) (pss_one (ps_expr (pe_bm PySem.F.plainAttrs_list PySem.F.slot_list_append PySem.F.type_list_append mt_append (pv 1) (pa_cons (pe_tup (pa_cons (pv 3) (pa_cons (pv 4) pa_nil))) pa_nil)))) pss_nil)
      (pss_one (ps_aug (i := 3) sc_prime_powers.nd rfl (by first | exact Or.inl rfl | exact Or.inr rfl) (pe_ifExp (pt_cmpR op_eq (pv 3) pe_int (nomark _)) pe_int pe_int) ip_add))))))
      (pss_cons (ps_if (pt_cmpR op_gt (pv 2) pe_int (nomark _)) (pss_one (ps_expr (pe_bm PySem.F.plainAttrs_list PySem.F.slot_list_append PySem.F.type_list_append mt_append (pv 1) (pa_cons (pe_tup (pa_cons (pv 2) (pa_cons pe_int pa_nil))) pa_nil)))) pss_nil)
      (pss_one (ps_ret (pe_callTy call_tuple_of (by rfl) hf_tuple (by decide +kernel) (pa_cons (pv 1) pa_nil)))))))))
/-! ### is_below -/
theorem sc_is_below : FnScope ["value", "limit"] ["value", "limit"] (defScope s_is_below) := ⟨rfl, rfl, rfl, by decide +kernel, rfl, by decide +kernel, by decide +kernel⟩
def sp_is_below (K : PySem.W.Frag) : Sp := fun vs H Q _ => ∃ (v : V) (l : Int), vs = [v, .int l] ∧ Kn H v ∧ Q (.bl (belowB v l)) H
theorem len_is_below {K : PySem.W.Frag} {vs : List V} {H : Hp} {Q : VK} {E : XK} (h : sp_is_below K vs H Q E) : vs.length = ["value", "limit"].length := by
  obtain ⟨_, _, rfl, _⟩ := h
  rfl
def t_is_below (K : PySem.W.Frag) : TS := (tRet (tAndV (tCall (sp_is_int K) [] E0 (tCons (tVar 0) tNil)) (tOrV (tIsN (tVar 1)) (tChain rLtI rLtI (tUn rNeg (tVar 1)) (tVar 0) (tVar 1)))))
theorem pure_is_below (K : PySem.W.Frag) (vs : List V) (H : Hp) (Q : VK) (E : XK) (h : sp_is_below K vs H Q E) : t_is_below K { nx := fun _ H' => Q .non H', rt := Q } (start ["value", "limit"] vs) H := by
  obtain ⟨v, l, rfl, hk, hq⟩ := h
  unfold t_is_below
  walk_at "z"
  refine ⟨v, rfl, hk, ?_⟩
  walk_at "z"
  cases v with
  | int i =>
    simp only [isI, if_true]
    walk_at "z"
    unfold belowB at hq
    by_cases h1 : -l < i
    · rw [if_pos h1]
      simpa [h1] using hq
    · rw [if_neg h1]
      simpa [h1] using hq
  | _ =>
    simp only [isI, Bool.false_eq_true, if_false]
    exact hq

theorem ok_is_below {P : Program} {w : World} {K : PySem.W.Frag} {mg : Str → Option Value} {base : Heap} (T : Tx K mg) : Okk P w K mg base 2 "is_below" ["value", "limit"] (sp_is_below K) := by
  obtain ⟨fd_is_int, F_is_int, b_is_int, g_is_int, k_is_int⟩ := ok_is_int (P := P) (w := w) (base := base) T
  obtain ⟨fd, F⟩ := T.f_is_below
  refine ⟨fd, F.ok sc_is_below (fun vs H Q E h => len_is_below h) (fun cdv A outer s H vs Q E hr h => ⟨t_is_below K, PSs.nox ?_, pure_is_below K vs H Q E h⟩), F.bindsN (fun _ _ _ _ _ _ us hl => match us, hl with | [_, _], _ => rfl), T.g_is_below, F.kp⟩
  exact (pss_one (ps_ret (pe_and (pe_call F_is_int (hr.mono (by decide)) rfl g_is_int k_is_int b_is_int .nil pass0 (pa_cons (pv 0) pa_nil)) (pe_one (pe_or (pe_cmp (pc_isN (pv 1))) (pe_one (pe_chain op_lt op_lt (pe_un un_neg (pv 1)) (pv 0) (pv 1))))))))
/-! ### check_between -/
theorem sc_check_between : FnScope ["number", "low", "high"] ["number", "low", "high"] (defScope s_check_between) := ⟨rfl, rfl, rfl, by decide +kernel, rfl, by decide +kernel, by decide +kernel⟩
def sp_check_between (K : PySem.W.Frag) : Sp := fun vs H Q E => ∃ (v : V) (lo hi : Int), vs = [v, .int lo, .int hi] ∧ Kn H v ∧ (OutI v lo hi → RaiseN K E H v) ∧ (∀ n, v = .int n → lo ≤ n → n ≤ hi → Q .non H)
theorem len_check_between {K : PySem.W.Frag} {vs : List V} {H : Hp} {Q : VK} {E : XK} (h : sp_check_between K vs H Q E) : vs.length = ["number", "low", "high"].length := by
  obtain ⟨_, _, _, rfl, _⟩ := h
  rfl
def t_check_between (K : PySem.W.Frag) (E : XK) : TS := (tIfS (tOr (tNot (tB (tCall (sp_is_int K) [] E0 (tCons (tVar 0) tNil)))) (tOr (tTest (tOp rLtI (tVar 0) (tVar 1))) (tTest (tOp rGtI (tVar 0) (tVar 2))))) (tRaise1 "given" (He.ga K "InvalidNumber") (fun cls d _ H => E cls d H) (tCons (tVar 0) tNil)) tNext)
theorem pure_check_between (K : PySem.W.Frag) (vs : List V) (H : Hp) (Q : VK) (E : XK) (h : sp_check_between K vs H Q E) : t_check_between K E { nx := fun _ H' => Q .non H', rt := Q } (start ["number", "low", "high"] vs) H := by
  obtain ⟨v, lo, hi, rfl, hk, hr, hq⟩ := h
  unfold t_check_between
  walk_at "z"
  refine ⟨v, rfl, hk, ?_⟩
  walk_at "z"
  cases v with
  | int n =>
    simp only [isI]
    walk_at "z"
    by_cases h1 : n < lo
    · rw [if_pos h1]
      exact ⟨_, rfl, hr fun m e => by cases e; exact .inl h1⟩
    · rw [if_neg h1]
      by_cases h2 : hi < n
      · rw [if_pos h2]
        exact ⟨_, rfl, hr fun m e => by cases e; exact .inr h2⟩
      · rw [if_neg h2]
        exact hq n rfl (by omega) (by omega)
  | _ =>
    simp only [isI]
    walk_at "z"
    exact ⟨_, rfl, hr fun m e => by cases e⟩
theorem ok_check_between {P : Program} {w : World} {K : PySem.W.Frag} {mg : Str → Option Value} {base : Heap} (T : Tx K mg) : OkkX P w K mg base 2 "check_between" ["number", "low", "high"] (sp_check_between K) := by
  obtain ⟨fd_is_int, F_is_int, b_is_int, g_is_int, k_is_int⟩ := ok_is_int (P := P) (w := w) (base := base) T
  obtain ⟨fd, F⟩ := T.f_check_between
  refine ⟨fd, F.ok sc_check_between (fun vs H Q E h => len_check_between h) (fun cdv A outer s H vs Q E hr h => ⟨t_check_between K E, ?_, pure_check_between K vs H Q E h⟩), F.bindsN (fun _ _ _ _ _ _ us hl => match us, hl with | [_, _, _], _ => rfl), T.g_check_between, F.kp⟩
  exact (pss_one (ps_if (PW.pt (pw_or (pt_not (pt_val (pe_call F_is_int (hr.mono (by decide)) rfl g_is_int k_is_int b_is_int .nil pass0 (pa_cons (pv 0) pa_nil)))) (pw_or (pt_cmpR op_lt (pv 0) (pv 1) (nomark _)) (pw_or1 (pt_cmpR op_gt (pv 0) (pv 2) (nomark _)))))) (pss_one (ps_raise1 PySem.F.excBase_IndexError PySem.F.store_IndexError PySem.ZExc.fnOk_given rfl T.x_InvalidNumber hr (takes_of rfl rfl rfl rfl) (pa_cons (pv 0) pa_nil) rfl (by decide))) pss_nil))
/-! ### least_maker_by -/
theorem sc_least_maker_by : FnScope ["prime", "parts", "maker", "part", "_"] ["prime", "parts"] (defScope s_least_maker_by) := ⟨rfl, rfl, rfl, by decide +kernel, rfl, by decide +kernel, by decide +kernel⟩
/-- no power with an exponent (p - 1) / q leaves 1 -/
def MkOk (p : Int) (ps : List (Nat × Nat)) (g : Int) : Prop := ∀ q ∈ ps, g ^ ((p - 1) / (q.1 : Int)).toNat % p ≠ 1
def sp_least_maker_by (K : PySem.W.Frag) : Sp := fun vs H Q _ => ∃ (p : Int) (T : Addr) (xs : List V) (ps : List (Nat × Nat)) (g : Nat), vs = [.int p, .ref T] ∧ 2 ≤ p ∧ p < 2 ^ 40 ∧ SqT K H T xs ∧ PR H xs ps ∧ ps.length < 2 ^ 20 ∧ (∀ q ∈ ps, 2 ≤ q.1 ∧ q.1 < 2 ^ 40) ∧
  1 ≤ g ∧ MkOk p ps g ∧ (∀ k : Nat, 1 ≤ k → k < g → ¬ MkOk p ps k) ∧ ∀ H', Same H H' → Q (.int (g : Int)) H'
theorem len_least_maker_by {K : PySem.W.Frag} {vs : List V} {H : Hp} {Q : VK} {E : XK} (h : sp_least_maker_by K vs H Q E) : vs.length = ["prime", "parts"].length := by
  obtain ⟨_, _, _, _, _, rfl, _⟩ := h
  rfl
def t_least_maker_by_w1_c (K : PySem.W.Frag) : TT := (tTest (tOp (rIn K false) (tC (.int 1)) (tLc (iTup K (tVar 1)) (gTup K 2 (gCons (gName 3) (gCons (gName 4) gNil))) tYes (tCall (sp_power_modulo K) [] E0 (tCons (tVar 2) (tCons (tOp rDivU (tOp rSub (tVar 0) (tC (.int 1))) (tVar 3)) (tCons (tVar 0) tNil)))) [3, 4])))
def t_least_maker_by_w1_b (K : PySem.W.Frag) : TS := (tAug 2 (tC (.int 1)) (ipI fun i j => i + j))
def t_least_maker_by (K : PySem.W.Frag) : TS := (tSeq (tAsg (tC (.int 1)) (gName 2))
  (tSeq (tWhile (t_least_maker_by_w1_c K) (t_least_maker_by_w1_b K))
  (tRet (tVar 2))))
theorem sqT_same {K : PySem.W.Frag} {H H' : Hp} {a : Addr} {xs : List V} (h : SqT K H a xs) (s : Same H H') : SqT K H' a xs := by
  rcases h with (h | ⟨o, h⟩) | h
  · exact .inl (.inl (s _ _ h))
  · exact .inl (.inr ⟨o, s _ _ h⟩)
  · exact .inr h
theorem outL_all {f : Nat → V} {n : Nat} : outL (fun i => some (f i)) n = (List.range n).map f := by
  unfold outL
  simp
theorem in_ints {K : PySem.W.Frag} {H : Hp} {D : Addr} {k : Int} {ns : List Int} {Q : VK} (h : H D = some (.lst (ns.map V.int))) (q : Q (.bl (decide (k ∈ ns))) H) : rIn K false (.int k) (.ref D) H Q := by
  refine ⟨D, _, rfl, .inl (sqL_of h), rfl, ?_, ?_⟩
  · simp [flatV]
  · have e : inV (.int k) (ns.map V.int) = decide (k ∈ ns) := by
      rw [Bool.eq_iff_iff, decide_eq_true_eq]
      simp [inV, eqV]
    simp only [Bool.false_eq_true, if_false, e]
    exact q
theorem pure_least_maker_by (K : PySem.W.Frag) (vs : List V) (H : Hp) (Q : VK) (E : XK) (h : sp_least_maker_by K vs H Q E) : t_least_maker_by K { nx := fun _ H' => Q .non H', rt := Q } (start ["prime", "parts", "maker", "part", "_"] vs) H := by
  obtain ⟨p, T, xs, ps, g, rfl, hp, hp2, hT, hPR, hpl, hps, hg, hgo, hgl, hq⟩ := h
  unfold t_least_maker_by
  walk_at "z"
  refine while_of (fun μ σ H' => ∃ m : Nat, σ = [some (.int p), some (.ref T), some (.int (m : Int)), none, none] ∧ Same H H' ∧ 1 ≤ m ∧ m ≤ g ∧ μ = g - m) (g - 1) ⟨1, rfl, Same.refl H, by omega, hg, rfl⟩ ?_
  rintro μ σ H' ⟨m, rfl, hS, hm, hmg, rfl⟩ N hN hN2
  unfold t_least_maker_by_w1_c t_least_maker_by_w1_b
  walk_at "z"
  have hT' := sqT_same hT hS
  have hPR' := hPR.same hS
  have hxl : xs.length < 2 ^ 20 := by rw [hPR.len]; exact hpl
  refine ⟨T, rfl, ⟨xs, hT'⟩, comp_T hT' (fun i => some (V.int ((m : Int) ^ ((p - 1) / ((ps.getD i ((0 : Nat), (0 : Nat))).1 : Int)).toNat % p))) (by omega) (fun i x H2 hx s2 Qo hQo => ?_) (fun D H2 s2 hD => ?_)⟩
  · obtain ⟨q, t, h1, rfl, h3⟩ := hPR'.get hx
    have hq2 := hps q (List.mem_of_getElem? h1)
    walk_at "z"
    refine ⟨_, sqT_of (s2 _ _ h3), rfl, ?_⟩
    walk_at "z"
    refine ⟨divS (by omega) (by omega), _, _, _, rfl, Int.ediv_nonneg (by omega) (by omega), by omega, by omega, ?_⟩
    have := hQo H2 (Same.refl H2)
    rw [List.getD_eq_getElem?_getD, h1] at this
    exact this
  · rw [outL_all] at hD
    have e : (List.range xs.length).map (fun i => V.int ((m : Int) ^ ((p - 1) / ((ps.getD i ((0 : Nat), (0 : Nat))).1 : Int)).toNat % p)) = (ps.map fun q => (m : Int) ^ ((p - 1) / (q.1 : Int)).toNat % p).map V.int := by
      rw [hPR.len]
      apply List.ext_getElem
      · simp
      · intro i h1 h2
        have h3 : i < ps.length := by simpa using h1
        simp [h3]
    rw [e] at hD
    refine in_ints hD ?_
    walk_at "z"
    have hmem : (1 : Int) ∈ (ps.map fun q => (m : Int) ^ ((p - 1) / (q.1 : Int)).toNat % p) ↔ ¬ MkOk p ps m := by
      unfold MkOk
      rw [List.mem_map]
      constructor
      · rintro ⟨q, hq1, hq2⟩ h
        exact h q hq1 hq2
      · intro h
        refine Classical.byContradiction fun h2 => h fun q hq1 hq2 => h2 ⟨q, hq1, hq2⟩
    by_cases hin : (1 : Int) ∈ (ps.map fun q => (m : Int) ^ ((p - 1) / (q.1 : Int)).toNat % p)
    · rw [if_pos hin]
      refine ⟨N, hN2, ?_⟩
      walk_at "z"
      have hlt : m < g := by
        refine Nat.lt_of_le_of_ne hmg fun e => hmem.mp hin ?_
        rw [e]; exact hgo
      exact hN _ _ _ (by omega) ⟨m + 1, rfl, hS.trans s2, by omega, by omega, rfl⟩
    · rw [if_neg hin]
      have he : m = g := by
        refine Classical.byContradiction fun e => hgl m hm (by omega) (Classical.byContradiction fun h2 => hin (hmem.mpr h2))
      subst he
      exact hq _ (hS.trans s2)
theorem ok_least_maker_by {P : Program} {w : World} {K : PySem.W.Frag} {mg : Str → Option Value} {base : Heap} (T : Tx K mg) : Okk P w K mg base 2 "least_maker_by" ["prime", "parts"] (sp_least_maker_by K) := by
  obtain ⟨fd_power_modulo, F_power_modulo, b_power_modulo, g_power_modulo, k_power_modulo⟩ := ok_power_modulo (P := P) (w := w) (base := base) T
  obtain ⟨fd, F⟩ := T.f_least_maker_by
  refine ⟨fd, F.ok sc_least_maker_by (fun vs H Q E h => len_least_maker_by h) (fun cdv A outer s H vs Q E hr h => ⟨t_least_maker_by K, PSs.nox ?_, pure_least_maker_by K vs H Q E h⟩), F.bindsN (fun _ _ _ _ _ _ us hl => match us, hl with | [_, _], _ => rfl), T.g_least_maker_by, F.kp⟩
  exact (pss_cons (ps_set (i := 2) sc_least_maker_by.nd rfl (by first | exact Or.inl rfl | exact Or.inr rfl) pe_int)
      (pss_cons (ps_while PassesOwn.never (pt_cmpR op_in_seq pe_int (pe_lc (own := [("part", 3), ("_", 4)]) (g := (gTup K 2 (gCons (gName 3) (gCons (gName 4) gNil)))) (tt := tYes) rfl sc_least_maker_by.nd (pi_tup (pv 1)) (blkOk_by (own := [("part", 3), ("_", 4)]) (N := ["prime", "parts", "maker", "part", "_"]) (sc := defScope s_least_maker_by) (by decide +kernel)) (fun _ _ _ _ _ => (pg_tup rfl (pgs_cons (pg_name (i := 3) sc_least_maker_by.nd rfl (by first | exact Or.inl rfl | exact Or.inr rfl)) (pgs_cons (pg_name (i := 4) sc_least_maker_by.nd rfl (by first | exact Or.inl rfl | exact Or.inr rfl)) pgs_nil)))) (fun _ _ _ _ _ => pts_nil) (fun _ _ _ _ _ => (pe_call F_power_modulo (hr.mono (by decide)) rfl g_power_modulo k_power_modulo b_power_modulo .nil pass0 (pa_cons (pv 2) (pa_cons (pe_op op_fdivW (pe_op op_sub (pv 0) pe_int) (pv 3)) (pa_cons (pv 0) pa_nil)))))) rfl) (pss_one (ps_aug (i := 2) sc_least_maker_by.nd rfl (by first | exact Or.inl rfl | exact Or.inr rfl) pe_int ip_add)))
      (pss_one (ps_ret (pv 2)))))
/-! ### count_units -/
theorem sc_count_units : FnScope ["parts", "many", "prime", "often"] ["parts"] (defScope s_count_units) := ⟨rfl, rfl, rfl, by decide +kernel, rfl, by decide +kernel, by decide +kernel⟩
def CuOk (ps : List (Nat × Nat)) : Prop := ∀ q ∈ ps, 2 ≤ q.1 ∧ q.1 < 2 ^ 40 ∧ 1 ≤ q.2 ∧ q.1 ^ (q.2 - 1) < 2 ^ 62
def sp_count_units (K : PySem.W.Frag) : Sp := fun vs H Q _ => ∃ (T : Addr) (xs : List V) (ps : List (Nat × Nat)), vs = [.ref T] ∧ SqT K H T xs ∧ PR H xs ps ∧ CuOk ps ∧ Q (.int (cuN ps : Int)) H
theorem len_count_units {K : PySem.W.Frag} {vs : List V} {H : Hp} {Q : VK} {E : XK} (h : sp_count_units K vs H Q E) : vs.length = ["parts"].length := by
  obtain ⟨_, _, _, rfl, _⟩ := h
  rfl
def t_count_units_f1_b (K : PySem.W.Frag) : TS := (tAsg (tOp rMulU (tOp rMulU (tVar 1) (tOp rSub (tVar 2) (tC (.int 1)))) (tCall (sp_integer_power K) [] E0 (tCons (tVar 2) (tCons (tOp rSub (tVar 3) (tC (.int 1))) tNil)))) (gName 1))
def t_count_units (K : PySem.W.Frag) : TS := (tSeq (tAsg (tC (.int 1)) (gName 1))
  (tSeq (tFor (iTup K (tVar 0)) (gTup K 2 (gCons (gName 2) (gCons (gName 3) gNil))) (t_count_units_f1_b K))
  (tRet (tVar 1))))
theorem cuN_take {ps : List (Nat × Nat)} {i : Nat} {q : Nat × Nat} (h : ps[i]? = some q) : cuN (ps.take (i + 1)) = cuN (ps.take i) * (q.1 - 1) * q.1 ^ (q.2 - 1) := by
  unfold cuN
  rw [List.take_succ, h]
  simp
theorem pure_count_units (K : PySem.W.Frag) (vs : List V) (H : Hp) (Q : VK) (E : XK) (h : sp_count_units K vs H Q E) : t_count_units K { nx := fun _ H' => Q .non H', rt := Q } (start ["parts", "many", "prime", "often"] vs) H := by
  obtain ⟨T, xs, ps, rfl, hT, hPR, hok, hq⟩ := h
  unfold t_count_units
  walk_at "z"
  refine ⟨T, rfl, ⟨xs, hT⟩, for_T (xs := xs) (fun i σ H' => ∃ o1 o2, σ = [some (.ref T), some (.int (cuN (ps.take i) : Int)), o1, o2] ∧ H' = H) ⟨_, _, rfl, rfl⟩ (fun i σ H' _ h => by obtain ⟨_, _, _, rfl⟩ := h; exact hT) (fun i x σ H' hx h N hN => ?_) (fun σ H' h => ?_)⟩
  · obtain ⟨o1, o2, rfl, rfl⟩ := h
    obtain ⟨q, t, h1, rfl, h3⟩ := hPR.get hx
    obtain ⟨a1, a2, a3, a4⟩ := hok q (List.mem_of_getElem? h1)
    unfold t_count_units_f1_b
    walk_at "z"
    refine ⟨_, sqT_of h3, rfl, ?_⟩
    walk_at "z"
    refine ⟨mulR (by omega), _, _, rfl, by omega, by omega, ?_, by omega, ?_⟩
    · have : ((q.1 : Int) ^ ((q.2 : Int) - 1).toNat) = ((q.1 ^ (q.2 - 1) : Nat) : Int) := by
        rw [Int.natCast_pow]; congr 1; omega
      rw [this]; omega
    · walk_at "z"
      refine ⟨mulR ?_, hN _ _ ⟨some (.int q.1), some (.int q.2), ?_, rfl⟩⟩
      · have : ((q.1 : Int) ^ ((q.2 : Int) - 1).toNat) = ((q.1 ^ (q.2 - 1) : Nat) : Int) := by
          rw [Int.natCast_pow]; congr 1; omega
        rw [this]; omega
      · rw [cuN_take h1]
        have e1 : ((q.1 : Int) ^ ((q.2 : Int) - 1).toNat) = ((q.1 ^ (q.2 - 1) : Nat) : Int) := by
          rw [Int.natCast_pow]; congr 1; omega
        have e2 : ((q.1 : Int) - 1) = ((q.1 - 1 : Nat) : Int) := by omega
        rw [e1, e2, ← Int.natCast_mul, ← Int.natCast_mul]
  · obtain ⟨o1, o2, rfl, rfl⟩ := h
    walk_at "z"
    rw [hPR.len, List.take_length]
    exact hq

theorem ok_count_units {P : Program} {w : World} {K : PySem.W.Frag} {mg : Str → Option Value} {base : Heap} (T : Tx K mg) : Okk P w K mg base 2 "count_units" ["parts"] (sp_count_units K) := by
  obtain ⟨fd_integer_power, F_integer_power, b_integer_power, g_integer_power, k_integer_power⟩ := ok_integer_power (P := P) (w := w) (base := base) T
  obtain ⟨fd, F⟩ := T.f_count_units
  refine ⟨fd, F.ok sc_count_units (fun vs H Q E h => len_count_units h) (fun cdv A outer s H vs Q E hr h => ⟨t_count_units K, PSs.nox ?_, pure_count_units K vs H Q E h⟩), F.bindsN (fun _ _ _ _ _ _ us hl => match us, hl with | [_], _ => rfl), T.g_count_units, F.kp⟩
  exact (pss_cons (ps_set (i := 1) sc_count_units.nd rfl (by first | exact Or.inl rfl | exact Or.inr rfl) pe_int)
      (pss_cons (ps_for PassesOwn.never rfl (pi_tup (pv 0)) (pg_tup rfl (pgs_cons (pg_name (i := 2) sc_count_units.nd rfl (by first | exact Or.inl rfl | exact Or.inr rfl)) (pgs_cons (pg_name (i := 3) sc_count_units.nd rfl (by first | exact Or.inl rfl | exact Or.inr rfl)) pgs_nil))) (pss_one (ps_set (i := 1) sc_count_units.nd rfl (by first | exact Or.inl rfl | exact Or.inr rfl) (pe_op op_mulU (pe_op op_mulU (pv 1) (pe_op op_sub (pv 2) pe_int)) (pe_call F_integer_power (hr.mono (by decide)) rfl g_integer_power k_integer_power b_integer_power .nil pass0 (pa_cons (pv 2) (pa_cons (pe_op op_sub (pv 3) pe_int) pa_nil)))))))
      (pss_one (ps_ret (pv 1)))))
/-! ### check_integer -/
theorem sc_check_integer : FnScope ["number"] ["number"] (defScope s_check_integer) := ⟨rfl, rfl, rfl, by decide +kernel, rfl, by decide +kernel, by decide +kernel⟩
def sp_check_integer (K : PySem.W.Frag) : Sp := fun vs H Q E => ∃ v : V, vs = [v] ∧ Kn H v ∧ (OutI v (1 - 10 ^ 60) (10 ^ 60 - 1) → RaiseN K E H v) ∧ (∀ n, v = .int n → -(10 ^ 60) < n → n < 10 ^ 60 → Q .non H)
theorem len_check_integer {K : PySem.W.Frag} {vs : List V} {H : Hp} {Q : VK} {E : XK} (h : sp_check_integer K vs H Q E) : vs.length = ["number"].length := by
  obtain ⟨_, rfl, _⟩ := h
  rfl
def t_check_integer (K : PySem.W.Frag) (E : XK) : TS := (tIfS (tNot (tB (tCall (sp_is_below K) [] E0 (tCons (tVar 0) (tCons (tC (.int 1000000000000000000000000000000000000000000000000000000000000)) tNil))))) (tRaise1 "given" (He.ga K "InvalidNumber") (fun cls d _ H => E cls d H) (tCons (tVar 0) tNil)) tNext)
theorem pure_check_integer (K : PySem.W.Frag) (vs : List V) (H : Hp) (Q : VK) (E : XK) (h : sp_check_integer K vs H Q E) : t_check_integer K E { nx := fun _ H' => Q .non H', rt := Q } (start ["number"] vs) H := by
  obtain ⟨v, rfl, hk, hr, hq⟩ := h
  unfold t_check_integer
  walk_at "z"
  refine ⟨v, _, rfl, hk, ?_⟩
  walk_at "z"
  by_cases hb : belowB v 1000000000000000000000000000000000000000000000000000000000000 = true
  · obtain ⟨i, rfl, h1, h2⟩ := belowB_int hb
    rw [hb]
    walk_at "z"
    exact hq i rfl (by omega) (by omega)
  · have hb2 : belowB v 1000000000000000000000000000000000000000000000000000000000000 = false := by simpa using hb
    rw [hb2]
    walk_at "z"
    refine ⟨v, rfl, hr fun n e => ?_⟩
    subst e
    have : ¬ (-1000000000000000000000000000000000000000000000000000000000000 < n ∧ n < 1000000000000000000000000000000000000000000000000000000000000) := by simpa [belowB] using hb2
    omega
theorem ok_check_integer {P : Program} {w : World} {K : PySem.W.Frag} {mg : Str → Option Value} {base : Heap} (T : Tx K mg) : OkkX P w K mg base 3 "check_integer" ["number"] (sp_check_integer K) := by
  obtain ⟨fd_is_below, F_is_below, b_is_below, g_is_below, k_is_below⟩ := ok_is_below (P := P) (w := w) (base := base) T
  obtain ⟨_, hc_SIXTY_DIGITS⟩ := T.c_SIXTY_DIGITS
  obtain ⟨fd, F⟩ := T.f_check_integer
  refine ⟨fd, F.ok sc_check_integer (fun vs H Q E h => len_check_integer h) (fun cdv A outer s H vs Q E hr h => ⟨t_check_integer K E, ?_, pure_check_integer K vs H Q E h⟩), F.bindsN (fun _ _ _ _ _ _ us hl => match us, hl with | [_], _ => rfl), T.g_check_integer, F.kp⟩
  exact (pss_one (ps_if (pt_not (pt_val (pe_call F_is_below (hr.mono (by decide)) rfl g_is_below k_is_below b_is_below .nil pass0 (pa_cons (pv 0) (pa_cons (pe_glob rfl hc_SIXTY_DIGITS ⟨_, rfl⟩) pa_nil))))) (pss_one (ps_raise1 PySem.F.excBase_IndexError PySem.F.store_IndexError PySem.ZExc.fnOk_given rfl T.x_InvalidNumber hr (takes_of rfl rfl rfl rfl) (pa_cons (pv 0) pa_nil) rfl (by decide))) pss_nil))
/-! ### is_prime -/
theorem sc_is_prime : FnScope ["number"] ["number"] (defScope s_is_prime) := ⟨rfl, rfl, rfl, by decide +kernel, rfl, by decide +kernel, by decide +kernel⟩
def sp_is_prime (K : PySem.W.Frag) : Sp := fun vs H Q E => ∃ v : V, vs = [v] ∧ Kn H v ∧ (OutI v 0 (10 ^ 8) → RaiseN K E H v) ∧ (∀ n, v = .int n → 0 ≤ n → n ≤ 10 ^ 8 → ∀ b : Bool, (b = true ↔ PrimeI n) → Q (.bl b) H)
theorem len_is_prime {K : PySem.W.Frag} {vs : List V} {H : Hp} {Q : VK} {E : XK} (h : sp_is_prime K vs H Q E) : vs.length = ["number"].length := by
  obtain ⟨_, rfl, _⟩ := h
  rfl
def t_is_prime (K : PySem.W.Frag) (E : XK) : TS := (tSeq (tDrop (tCall (sp_check_between K) [] E (tCons (tVar 0) (tCons (tC (.int 0)) (tCons (tC (.int 100000000)) tNil)))))
  (tRet (tCall (sp_has_no_parts K) [] E0 (tCons (tVar 0) tNil))))
theorem pure_is_prime (K : PySem.W.Frag) (vs : List V) (H : Hp) (Q : VK) (E : XK) (h : sp_is_prime K vs H Q E) : t_is_prime K E { nx := fun _ H' => Q .non H', rt := Q } (start ["number"] vs) H := by
  obtain ⟨v, rfl, hk, hr, hq⟩ := h
  unfold t_is_prime
  walk_at "z"
  refine ⟨v, _, _, rfl, hk, hr, fun n e h1 h2 => ?_⟩
  subst e
  walk_at "z"
  exact ⟨n, rfl, by omega, hq n rfl h1 h2⟩
theorem ok_is_prime {P : Program} {w : World} {K : PySem.W.Frag} {mg : Str → Option Value} {base : Heap} (T : Tx K mg) : OkkX P w K mg base 3 "is_prime" ["number"] (sp_is_prime K) := by
  obtain ⟨fd_has_no_parts, F_has_no_parts, b_has_no_parts, g_has_no_parts, k_has_no_parts⟩ := ok_has_no_parts (P := P) (w := w) (base := base) T
  obtain ⟨fd_check_between, F_check_between, b_check_between, g_check_between, k_check_between⟩ := ok_check_between (P := P) (w := w) (base := base) T
  obtain ⟨_, hc_MOST⟩ := T.c_MOST
  obtain ⟨fd, F⟩ := T.f_is_prime
  refine ⟨fd, F.ok sc_is_prime (fun vs H Q E h => len_is_prime h) (fun cdv A outer s H vs Q E hr h => ⟨t_is_prime K E, ?_, pure_is_prime K vs H Q E h⟩), F.bindsN (fun _ _ _ _ _ _ us hl => match us, hl with | [_], _ => rfl), T.g_is_prime, F.kp⟩
  exact (pss_cons (ps_expr (pe_call F_check_between (hr.mono (by decide)) rfl g_check_between k_check_between b_check_between .nil (passes_call (takes_of rfl rfl rfl rfl) (fun _ _ _ _ h => h)) (pa_cons (pv 0) (pa_cons pe_int (pa_cons (pe_glob rfl hc_MOST ⟨_, rfl⟩) pa_nil)))))
      (pss_one (ps_ret (pe_call F_has_no_parts (hr.mono (by decide)) rfl g_has_no_parts k_has_no_parts b_has_no_parts .nil pass0 (pa_cons (pv 0) pa_nil)))))
/-! ### next_prime -/
theorem sc_next_prime : FnScope ["number", "candidate"] ["number"] (defScope s_next_prime) := ⟨rfl, rfl, rfl, by decide +kernel, rfl, by decide +kernel, by decide +kernel⟩
def sp_next_prime (K : PySem.W.Frag) : Sp := fun vs H Q E => ∃ v : V, vs = [v] ∧ Kn H v ∧ (OutI v 0 (10 ^ 8) → RaiseN K E H v) ∧ (∀ n, v = .int n → 0 ≤ n → n ≤ 10 ^ 8 → ∃ b : Nat, n < b ∧ b < 2 ^ 39 ∧ PrimeI b ∧ ∀ m : Int, Q (.int m) H)
theorem len_next_prime {K : PySem.W.Frag} {vs : List V} {H : Hp} {Q : VK} {E : XK} (h : sp_next_prime K vs H Q E) : vs.length = ["number"].length := by
  obtain ⟨_, rfl, _⟩ := h
  rfl
def t_next_prime_w1_c (K : PySem.W.Frag) (E : XK) : TT := (tNot (tB (tCall (sp_has_no_parts K) [] E0 (tCons (tVar 1) tNil))))
def t_next_prime_w1_b (K : PySem.W.Frag) (E : XK) : TS := (tAug 1 (tC (.int 1)) (ipI fun i j => i + j))
def t_next_prime (K : PySem.W.Frag) (E : XK) : TS := (tSeq (tDrop (tCall (sp_check_between K) [] E (tCons (tVar 0) (tCons (tC (.int 0)) (tCons (tC (.int 100000000)) tNil)))))
  (tSeq (tAsg (tOp rAdd (tVar 0) (tC (.int 1))) (gName 1))
  (tSeq (tWhile (t_next_prime_w1_c K E) (t_next_prime_w1_b K E))
  (tRet (tVar 1)))))
theorem pure_next_prime (K : PySem.W.Frag) (vs : List V) (H : Hp) (Q : VK) (E : XK) (h : sp_next_prime K vs H Q E) : t_next_prime K E { nx := fun _ H' => Q .non H', rt := Q } (start ["number", "candidate"] vs) H := by
  obtain ⟨v, rfl, hk, hr, hq⟩ := h
  unfold t_next_prime
  walk_at "z"
  refine ⟨v, _, _, rfl, hk, hr, fun n e h1 h2 => ?_⟩
  subst e
  obtain ⟨b, hnb, hb, hpb, hq⟩ := hq n rfl h1 h2
  walk_at "z"
  refine while_of (fun μ σ H' => ∃ m : Int, σ = [some (.int n), some (.int m)] ∧ H' = H ∧ n < m ∧ m ≤ b ∧ μ = ((b : Int) - m).toNat) ((b : Int) - (n + 1)).toNat ⟨n + 1, rfl, rfl, by omega, by omega, rfl⟩ ?_
  rintro μ σ H' ⟨m, rfl, rfl, hm, hmb, rfl⟩ N hN hN2
  unfold t_next_prime_w1_c t_next_prime_w1_b
  walk_at "z"
  refine ⟨_, rfl, by omega, fun c hc => ?_⟩
  walk_at "z"
  cases c with
  | true =>
    simp only [if_true, Bool.true_eq_false, if_false]
    exact hq m
  | false =>
    simp only [if_true]
    refine ⟨N, hN2, ?_⟩
    walk_at "z"
    have hne : m ≠ b := fun e => by
      have := hc.mpr (e ▸ hpb)
      cases this
    exact hN _ _ _ (by omega) ⟨m + 1, rfl, rfl, by omega, by omega, rfl⟩
theorem ok_next_prime {P : Program} {w : World} {K : PySem.W.Frag} {mg : Str → Option Value} {base : Heap} (T : Tx K mg) : OkkX P w K mg base 3 "next_prime" ["number"] (sp_next_prime K) := by
  obtain ⟨fd_has_no_parts, F_has_no_parts, b_has_no_parts, g_has_no_parts, k_has_no_parts⟩ := ok_has_no_parts (P := P) (w := w) (base := base) T
  obtain ⟨fd_check_between, F_check_between, b_check_between, g_check_between, k_check_between⟩ := ok_check_between (P := P) (w := w) (base := base) T
  obtain ⟨_, hc_MOST⟩ := T.c_MOST
  obtain ⟨fd, F⟩ := T.f_next_prime
  refine ⟨fd, F.ok sc_next_prime (fun vs H Q E h => len_next_prime h) (fun cdv A outer s H vs Q E hr h => ⟨t_next_prime K E, ?_, pure_next_prime K vs H Q E h⟩), F.bindsN (fun _ _ _ _ _ _ us hl => match us, hl with | [_], _ => rfl), T.g_next_prime, F.kp⟩
  exact (pss_cons (ps_expr (pe_call F_check_between (hr.mono (by decide)) rfl g_check_between k_check_between b_check_between .nil (passes_call (takes_of rfl rfl rfl rfl) (fun _ _ _ _ h => h)) (pa_cons (pv 0) (pa_cons pe_int (pa_cons (pe_glob rfl hc_MOST ⟨_, rfl⟩) pa_nil)))))
      (pss_cons (ps_set (i := 1) sc_next_prime.nd rfl (by first | exact Or.inl rfl | exact Or.inr rfl) (pe_op op_add (pv 0) pe_int))
      (pss_cons (ps_while (passes_of rfl) (pt_not (pt_val (pe_call F_has_no_parts (hr.mono (by decide)) rfl g_has_no_parts k_has_no_parts b_has_no_parts .nil pass0 (pa_cons (pv 1) pa_nil)))) (pss_one (ps_aug (i := 1) sc_next_prime.nd rfl (by first | exact Or.inl rfl | exact Or.inr rfl) pe_int ip_add)))
      (pss_one (ps_ret (pv 1))))))
/-! ### prime_paper -/
theorem sc_prime_paper : FnScope ["number", "rows", "waiting", "prime", "parts", "part", "_"] ["number"] (defScope s_prime_paper) := ⟨rfl, rfl, rfl, by decide +kernel, rfl, by decide +kernel, by decide +kernel⟩
def sp_prime_paper (K : PySem.W.Frag) : Sp := fun _ _ _ _ => False
theorem len_prime_paper {K : PySem.W.Frag} {vs : List V} {H : Hp} {Q : VK} {E : XK} (h : sp_prime_paper K vs H Q E) : vs.length = ["number"].length := h.elim
theorem ok_prime_paper {P : Program} {w : World} {K : PySem.W.Frag} {mg : Str → Option Value} {base : Heap} (T : Tx K mg) : Okk P w K mg base 3 "prime_paper" ["number"] (sp_prime_paper K) := by
  obtain ⟨fd, F⟩ := T.f_prime_paper
  exact ⟨fd, F.ok sc_prime_paper (fun vs H Q E h => len_prime_paper h) (fun cdv A outer s H vs Q E hr h => h.elim), F.bindsN (fun _ _ _ _ _ _ us hl => match us, hl with | [_], _ => rfl), T.g_prime_paper, F.kp⟩
/-! ### divisors -/
theorem sc_divisors : FnScope ["number", "found", "prime", "often", "powers", "exponent", "divisor", "factor"] ["number"] (defScope s_divisors) := ⟨rfl, rfl, rfl, by decide +kernel, rfl, by decide +kernel, by decide +kernel⟩
def sp_divisors (K : PySem.W.Frag) : Sp := fun vs H Q E => ∃ v : V, vs = [v] ∧ Kn H v ∧ OutI v 1 (10 ^ 8) ∧ RaiseN K E H v
theorem len_divisors {K : PySem.W.Frag} {vs : List V} {H : Hp} {Q : VK} {E : XK} (h : sp_divisors K vs H Q E) : vs.length = ["number"].length := by
  obtain ⟨_, rfl, _⟩ := h
  rfl
def t_divisors_f1_b (K : PySem.W.Frag) (E : XK) : TS := (tSeq (tAsg (tLc (iRng1 (tCons (tOp rAdd (tVar 3) (tC (.int 1))) tNil)) (gName 5) tYes (tCall (sp_integer_power K) [] E0 (tCons (tVar 2) (tCons (tVar 5) tNil))) [5]) (gName 4))
  (tAsg (tLc2 (iList K (tVar 1)) (gName 6) tYes (iList K (tVar 4)) (gName 7) tYes (tOp rMulU (tVar 6) (tVar 7)) [6, 7] [7]) (gName 1)))
def t_divisors (K : PySem.W.Frag) (E : XK) : TS := (tSeq (tDrop (tCall (sp_check_between K) [] E (tCons (tVar 0) (tCons (tC (.int 1)) (tCons (tC (.int 100000000)) tNil)))))
  (tSeq (tAsg (tLst (tCons (tC (.int 1)) tNil)) (gName 1))
  (tSeq (tFor (iTup K (tCall (sp_prime_powers K) [] E0 (tCons (tVar 0) tNil))) (gTup K 2 (gCons (gName 2) (gCons (gName 3) gNil))) (t_divisors_f1_b K E))
  (tRet (tCB (rTupOf K) (tCons (tCB (rSortedI K) (tCons (tVar 1) tNil)) tNil))))))
theorem pure_divisors (K : PySem.W.Frag) (vs : List V) (H : Hp) (Q : VK) (E : XK) (h : sp_divisors K vs H Q E) : t_divisors K E { nx := fun _ H' => Q .non H', rt := Q } (start ["number", "found", "prime", "often", "powers", "exponent", "divisor", "factor"] vs) H := by
  obtain ⟨v, rfl, hk, ho, hr⟩ := h
  unfold t_divisors
  walk_at "z"
  refine ⟨v, _, _, rfl, hk, fun _ => hr, fun n e h1 h2 => ?_⟩
  have := ho n e
  omega
theorem ok_divisors {P : Program} {w : World} {K : PySem.W.Frag} {mg : Str → Option Value} {base : Heap} (T : Tx K mg) : OkkX P w K mg base 3 "divisors" ["number"] (sp_divisors K) := by
  obtain ⟨fd_integer_power, F_integer_power, b_integer_power, g_integer_power, k_integer_power⟩ := ok_integer_power (P := P) (w := w) (base := base) T
  obtain ⟨fd_check_between, F_check_between, b_check_between, g_check_between, k_check_between⟩ := ok_check_between (P := P) (w := w) (base := base) T
  obtain ⟨fd_prime_powers, F_prime_powers, b_prime_powers, g_prime_powers, k_prime_powers⟩ := ok_prime_powers (P := P) (w := w) (base := base) T
  obtain ⟨_, hc_MOST⟩ := T.c_MOST
  have hf_range := T.n_range
  have hf_sorted := T.n_sorted
  have hf_tuple := T.n_tuple
  obtain ⟨fd, F⟩ := T.f_divisors
  refine ⟨fd, F.ok sc_divisors (fun vs H Q E h => len_divisors h) (fun cdv A outer s H vs Q E hr h => ⟨t_divisors K E, ?_, pure_divisors K vs H Q E h⟩), F.bindsN (fun _ _ _ _ _ _ us hl => match us, hl with | [_], _ => rfl), T.g_divisors, F.kp⟩
  exact (pss_cons (ps_expr (pe_call F_check_between (hr.mono (by decide)) rfl g_check_between k_check_between b_check_between .nil (passes_call (takes_of rfl rfl rfl rfl) (fun _ _ _ _ h => h)) (pa_cons (pv 0) (pa_cons pe_int (pa_cons (pe_glob rfl hc_MOST ⟨_, rfl⟩) pa_nil)))))
      (pss_cons (ps_set (i := 1) sc_divisors.nd rfl (by first | exact Or.inl rfl | exact Or.inr rfl) (pe_lst (pa_cons pe_int pa_nil)))
      (pss_cons (ps_for (passes_of rfl) rfl (pi_tup (pe_call F_prime_powers (hr.mono (by decide)) rfl g_prime_powers k_prime_powers b_prime_powers .nil pass0 (pa_cons (pv 0) pa_nil))) (pg_tup rfl (pgs_cons (pg_name (i := 2) sc_divisors.nd rfl (by first | exact Or.inl rfl | exact Or.inr rfl)) (pgs_cons (pg_name (i := 3) sc_divisors.nd rfl (by first | exact Or.inl rfl | exact Or.inr rfl)) pgs_nil))) (pss_cons (ps_set (i := 4) sc_divisors.nd rfl (by first | exact Or.inl rfl | exact Or.inr rfl) (pe_lc (own := [("exponent", 5)]) (g := (gName 5)) (tt := tYes) rfl sc_divisors.nd (pi_range1 rfl hf_range (pa_cons (pe_op op_add (pv 3) pe_int) pa_nil)) (blkOk_by (own := [("exponent", 5)]) (N := ["number", "found", "prime", "often", "powers", "exponent", "divisor", "factor"]) (sc := defScope s_divisors) (by decide +kernel)) (fun _ _ _ _ _ => (pg_name (i := 5) sc_divisors.nd rfl (by first | exact Or.inl rfl | exact Or.inr rfl))) (fun _ _ _ _ _ => pts_nil) (fun _ _ _ _ _ => (pe_call F_integer_power (hr.mono (by decide)) rfl g_integer_power k_integer_power b_integer_power .nil pass0 (pa_cons (pv 2) (pa_cons (pv 5) pa_nil))))))
      (pss_one (ps_setLc2 (i := 1) (own := [("divisor", 6), ("factor", 7)]) (g := (gName 6)) (tt := tYes) (g1 := (gName 7)) (tt1 := tYes) (vs1 := [7]) rfl sc_divisors.nd rfl rfl (sw_true rfl rfl rfl (by decide +kernel)) (pi_list (pv 1)) (blkOk_by (own := [("divisor", 6), ("factor", 7)]) (N := ["number", "found", "prime", "often", "powers", "exponent", "divisor", "factor"]) (sc := defScope s_divisors) (by decide +kernel)) (by decide) (fun _ _ _ _ _ => (pg_name (i := 6) sc_divisors.nd rfl (by first | exact Or.inl rfl | exact Or.inr rfl))) (fun _ _ _ _ _ => pts_nil) (fun _ _ _ _ _ => (pi_list (pv 4))) (fun _ _ _ _ _ => (pg_name (i := 7) sc_divisors.nd rfl (by first | exact Or.inl rfl | exact Or.inr rfl))) (fun _ _ _ _ _ => pts_nil) (fun _ _ _ _ _ => (pe_op op_mulU (pv 6) (pv 7)))))))
      (pss_one (ps_ret (pe_callTy call_tuple_of (by rfl) hf_tuple (by decide +kernel) (pa_cons (pe_callB cr_sortedI (by rfl) hf_sorted (by decide +kernel) (pa_cons (pv 1) pa_nil)) pa_nil)))))))
/-! ### units_number -/
theorem sc_units_number : FnScope ["number"] ["number"] (defScope s_units_number) := ⟨rfl, rfl, rfl, by decide +kernel, rfl, by decide +kernel, by decide +kernel⟩
def sp_units_number (K : PySem.W.Frag) : Sp := fun vs H Q E => ∃ v : V, vs = [v] ∧ Kn H v ∧ OutI v 1 (10 ^ 8) ∧ RaiseN K E H v
theorem len_units_number {K : PySem.W.Frag} {vs : List V} {H : Hp} {Q : VK} {E : XK} (h : sp_units_number K vs H Q E) : vs.length = ["number"].length := by
  obtain ⟨_, rfl, _⟩ := h
  rfl
def t_units_number (K : PySem.W.Frag) (E : XK) : TS := (tSeq (tDrop (tCall (sp_check_between K) [] E (tCons (tVar 0) (tCons (tC (.int 1)) (tCons (tC (.int 100000000)) tNil)))))
  (tRet (tCall (sp_count_units K) [] E0 (tCons (tCall (sp_prime_powers K) [] E0 (tCons (tVar 0) tNil)) tNil))))
theorem cuOk_pp {n : Nat} (h1 : 1 ≤ n) (h2 : n < 2 ^ 40) : CuOk (ppN n) := fun q hq => by
  have g := ppN_good h1
  obtain ⟨a, b, c⟩ := g.le h1 hq
  obtain ⟨d, e⟩ := g.pr q hq
  exact ⟨d.1, by omega, e, by omega⟩
theorem pure_units_number (K : PySem.W.Frag) (vs : List V) (H : Hp) (Q : VK) (E : XK) (h : sp_units_number K vs H Q E) : t_units_number K E { nx := fun _ H' => Q .non H', rt := Q } (start ["number"] vs) H := by
  obtain ⟨v, rfl, hk, ho, hr⟩ := h
  unfold t_units_number
  walk_at "z"
  refine ⟨v, _, _, rfl, hk, fun _ => hr, fun n e h1 h2 => ?_⟩
  have := ho n e
  omega
theorem ok_units_number {P : Program} {w : World} {K : PySem.W.Frag} {mg : Str → Option Value} {base : Heap} (T : Tx K mg) : OkkX P w K mg base 3 "units_number" ["number"] (sp_units_number K) := by
  obtain ⟨fd_check_between, F_check_between, b_check_between, g_check_between, k_check_between⟩ := ok_check_between (P := P) (w := w) (base := base) T
  obtain ⟨fd_prime_powers, F_prime_powers, b_prime_powers, g_prime_powers, k_prime_powers⟩ := ok_prime_powers (P := P) (w := w) (base := base) T
  obtain ⟨fd_count_units, F_count_units, b_count_units, g_count_units, k_count_units⟩ := ok_count_units (P := P) (w := w) (base := base) T
  obtain ⟨_, hc_MOST⟩ := T.c_MOST
  obtain ⟨fd, F⟩ := T.f_units_number
  refine ⟨fd, F.ok sc_units_number (fun vs H Q E h => len_units_number h) (fun cdv A outer s H vs Q E hr h => ⟨t_units_number K E, ?_, pure_units_number K vs H Q E h⟩), F.bindsN (fun _ _ _ _ _ _ us hl => match us, hl with | [_], _ => rfl), T.g_units_number, F.kp⟩
  exact (pss_cons (ps_expr (pe_call F_check_between (hr.mono (by decide)) rfl g_check_between k_check_between b_check_between .nil (passes_call (takes_of rfl rfl rfl rfl) (fun _ _ _ _ h => h)) (pa_cons (pv 0) (pa_cons pe_int (pa_cons (pe_glob rfl hc_MOST ⟨_, rfl⟩) pa_nil)))))
      (pss_one (ps_ret (pe_call F_count_units (hr.mono (by decide)) rfl g_count_units k_count_units b_count_units .nil pass0 (pa_cons (pe_call F_prime_powers (hr.mono (by decide)) rfl g_prime_powers k_prime_powers b_prime_powers .nil pass0 (pa_cons (pv 0) pa_nil)) pa_nil)))))
/-! ### least_maker -/
theorem sc_least_maker : FnScope ["prime"] ["prime"] (defScope s_least_maker) := ⟨rfl, rfl, rfl, by decide +kernel, rfl, by decide +kernel, by decide +kernel⟩
def sp_least_maker (K : PySem.W.Frag) : Sp := fun vs H Q E => ∃ v : V, vs = [v] ∧ Kn H v ∧ (∀ n, v = .int n → n ≤ 10 ^ 8 → ¬ PrimeI n) ∧ RaiseN K E H v
theorem len_least_maker {K : PySem.W.Frag} {vs : List V} {H : Hp} {Q : VK} {E : XK} (h : sp_least_maker K vs H Q E) : vs.length = ["prime"].length := by
  obtain ⟨_, rfl, _⟩ := h
  rfl
def t_least_maker (K : PySem.W.Frag) (E : XK) : TS := (tSeq (tIfS (tOr (tNot (tB (tCall (sp_is_int K) [] E0 (tCons (tVar 0) tNil)))) (tOr (tTest (tOp rGtI (tVar 0) (tC (.int 100000000)))) (tNot (tB (tCall (sp_has_no_parts K) [] E0 (tCons (tVar 0) tNil)))))) (tRaise1 "given" (He.ga K "InvalidNumber") (fun cls d _ H => E cls d H) (tCons (tVar 0) tNil)) tNext)
  (tRet (tCall (sp_least_maker_by K) [] E0 (tCons (tVar 0) (tCons (tCall (sp_prime_powers K) [] E0 (tCons (tOp rSub (tVar 0) (tC (.int 1))) tNil)) tNil)))))
theorem pure_least_maker (K : PySem.W.Frag) (vs : List V) (H : Hp) (Q : VK) (E : XK) (h : sp_least_maker K vs H Q E) : t_least_maker K E { nx := fun _ H' => Q .non H', rt := Q } (start ["prime"] vs) H := by
  obtain ⟨v, rfl, hk, hn, hr⟩ := h
  unfold t_least_maker
  walk_at "z"
  refine ⟨v, rfl, hk, ?_⟩
  walk_at "z"
  cases v with
  | int n =>
    simp only [isI]
    walk_at "z"
    by_cases h1 : 10 ^ 8 < n
    · rw [if_pos (by omega)]
      exact ⟨_, rfl, hr⟩
    · rw [if_neg (by omega)]
      refine ⟨n, rfl, by omega, fun b hb => ?_⟩
      walk_at "z"
      have hb2 : b = false := by
        cases b with
        | false => rfl
        | true => exact absurd (hb.mp rfl) (hn n rfl (by omega))
      subst hb2
      walk_at "z"
      exact ⟨_, rfl, hr⟩
  | _ =>
    simp only [isI]
    walk_at "z"
    exact ⟨_, rfl, hr⟩

theorem ok_least_maker {P : Program} {w : World} {K : PySem.W.Frag} {mg : Str → Option Value} {base : Heap} (T : Tx K mg) : OkkX P w K mg base 3 "least_maker" ["prime"] (sp_least_maker K) := by
  obtain ⟨fd_is_int, F_is_int, b_is_int, g_is_int, k_is_int⟩ := ok_is_int (P := P) (w := w) (base := base) T
  obtain ⟨fd_has_no_parts, F_has_no_parts, b_has_no_parts, g_has_no_parts, k_has_no_parts⟩ := ok_has_no_parts (P := P) (w := w) (base := base) T
  obtain ⟨fd_prime_powers, F_prime_powers, b_prime_powers, g_prime_powers, k_prime_powers⟩ := ok_prime_powers (P := P) (w := w) (base := base) T
  obtain ⟨fd_least_maker_by, F_least_maker_by, b_least_maker_by, g_least_maker_by, k_least_maker_by⟩ := ok_least_maker_by (P := P) (w := w) (base := base) T
  obtain ⟨_, hc_MOST⟩ := T.c_MOST
  obtain ⟨fd, F⟩ := T.f_least_maker
  refine ⟨fd, F.ok sc_least_maker (fun vs H Q E h => len_least_maker h) (fun cdv A outer s H vs Q E hr h => ⟨t_least_maker K E, ?_, pure_least_maker K vs H Q E h⟩), F.bindsN (fun _ _ _ _ _ _ us hl => match us, hl with | [_], _ => rfl), T.g_least_maker, F.kp⟩
  exact (pss_cons (ps_if (PW.pt (pw_or (pt_not (pt_val (pe_call F_is_int (hr.mono (by decide)) rfl g_is_int k_is_int b_is_int .nil pass0 (pa_cons (pv 0) pa_nil)))) (pw_or (pt_cmpR op_gt (pv 0) (pe_glob rfl hc_MOST ⟨_, rfl⟩) (nomark _)) (pw_or1 (pt_not (pt_val (pe_call F_has_no_parts (hr.mono (by decide)) rfl g_has_no_parts k_has_no_parts b_has_no_parts .nil pass0 (pa_cons (pv 0) pa_nil)))))))) (pss_one (ps_raise1 PySem.F.excBase_IndexError PySem.F.store_IndexError PySem.ZExc.fnOk_given rfl T.x_InvalidNumber hr (takes_of rfl rfl rfl rfl) (pa_cons (pv 0) pa_nil) rfl (by decide))) pss_nil)
      (pss_one (ps_ret (pe_call F_least_maker_by (hr.mono (by decide)) rfl g_least_maker_by k_least_maker_by b_least_maker_by .nil pass0 (pa_cons (pv 0) (pa_cons (pe_call F_prime_powers (hr.mono (by decide)) rfl g_prime_powers k_prime_powers b_prime_powers .nil pass0 (pa_cons (pe_op op_sub (pv 0) pe_int) pa_nil)) pa_nil))))))
/-! ### prime_answer -/
theorem sc_prime_answer : FnScope ["number", "divisor"] ["number"] (defScope s_prime_answer) := ⟨rfl, rfl, rfl, by decide +kernel, rfl, by decide +kernel, by decide +kernel⟩
def sp_prime_answer (K : PySem.W.Frag) : Sp := fun vs H Q E => ∃ v : V, vs = [v] ∧ Kn H v ∧ (OutI v 2 (10 ^ 8) → RaiseN K E H v) ∧ (∀ n, v = .int n → 2 ≤ n → n ≤ 10 ^ 8 → ¬ PrimeI n ∧ ∀ A H', Same H H' → Q (.ref A) H')
theorem len_prime_answer {K : PySem.W.Frag} {vs : List V} {H : Hp} {Q : VK} {E : XK} (h : sp_prime_answer K vs H Q E) : vs.length = ["number"].length := by
  obtain ⟨_, rfl, _⟩ := h
  rfl
def t_prime_answer (K : PySem.W.Frag) (E : XK) : TS := (tSeq (tDrop (tCall (sp_check_between K) [] E (tCons (tVar 0) (tCons (tC (.int 2)) (tCons (tC (.int 100000000)) tNil)))))
  (tSeq (tAsg (tCall (sp_least_divisor K) [] E0 (tCons (tVar 0) tNil)) (gName 1))
  (tSeq (tIfS (tTest (tOp rEq (tVar 1) (tVar 0))) (tRet (tTup (tCons (tTup (tCons (tC (.str "prime")) (tCons (tVar 0) tNil))) (tCons (tCall (sp_prime_paper K) [] E0 (tCons (tVar 0) tNil)) tNil)))) tNext)
  (tRet (tTup (tCons (tTup (tCons (tC (.str "split")) (tCons (tVar 0) tNil))) (tCons (tTup (tCons (tVar 1) (tCons (tOp rDivU (tVar 0) (tVar 1)) tNil))) tNil)))))))
theorem pure_prime_answer (K : PySem.W.Frag) (vs : List V) (H : Hp) (Q : VK) (E : XK) (h : sp_prime_answer K vs H Q E) : t_prime_answer K E { nx := fun _ H' => Q .non H', rt := Q } (start ["number", "divisor"] vs) H := by
  obtain ⟨v, rfl, hk, hr, hq⟩ := h
  unfold t_prime_answer
  walk_at "z"
  refine ⟨v, _, _, rfl, hk, hr, fun n e h1 h2 => ?_⟩
  subst e
  obtain ⟨hn, hq⟩ := hq n rfl h1 h2
  walk_at "z"
  refine ⟨_, rfl, by omega, by omega, fun d hd hdn => ?_⟩
  walk_at "z"
  have e : ¬ d = n := fun e => hn (e ▸ ⟨hd.1, fun k a b c => hd.2.2 k a b (e ▸ c)⟩)
  rw [if_neg e]
  have d2 := hd.1
  refine ⟨by decide, fun C hC => ⟨divS (by omega) (by omega), by decide, fun T hT => ⟨by decide, fun A hA => ?_⟩⟩⟩
  exact hq A _ (((same_upd hC).trans (same_upd hT)).trans (same_upd hA))
theorem ok_prime_answer {P : Program} {w : World} {K : PySem.W.Frag} {mg : Str → Option Value} {base : Heap} (T : Tx K mg) : OkkX P w K mg base 4 "prime_answer" ["number"] (sp_prime_answer K) := by
  obtain ⟨fd_least_divisor, F_least_divisor, b_least_divisor, g_least_divisor, k_least_divisor⟩ := ok_least_divisor (P := P) (w := w) (base := base) T
  obtain ⟨fd_check_between, F_check_between, b_check_between, g_check_between, k_check_between⟩ := ok_check_between (P := P) (w := w) (base := base) T
  obtain ⟨fd_prime_paper, F_prime_paper, b_prime_paper, g_prime_paper, k_prime_paper⟩ := ok_prime_paper (P := P) (w := w) (base := base) T
  obtain ⟨_, hc_MOST⟩ := T.c_MOST
  obtain ⟨fd, F⟩ := T.f_prime_answer
  refine ⟨fd, F.ok sc_prime_answer (fun vs H Q E h => len_prime_answer h) (fun cdv A outer s H vs Q E hr h => ⟨t_prime_answer K E, ?_, pure_prime_answer K vs H Q E h⟩), F.bindsN (fun _ _ _ _ _ _ us hl => match us, hl with | [_], _ => rfl), T.g_prime_answer, F.kp⟩
  exact (pss_cons (ps_expr (pe_call F_check_between (hr.mono (by decide)) rfl g_check_between k_check_between b_check_between .nil (passes_call (takes_of rfl rfl rfl rfl) (fun _ _ _ _ h => h)) (pa_cons (pv 0) (pa_cons pe_int (pa_cons (pe_glob rfl hc_MOST ⟨_, rfl⟩) pa_nil)))))
      (pss_cons (ps_set (i := 1) sc_prime_answer.nd rfl (by first | exact Or.inl rfl | exact Or.inr rfl) (pe_call F_least_divisor (hr.mono (by decide)) rfl g_least_divisor k_least_divisor b_least_divisor .nil pass0 (pa_cons (pv 0) pa_nil)))
      (pss_cons (ps_if (pt_cmpR op_eq (pv 1) (pv 0) (nomark _)) (pss_one (ps_ret (pe_tup (pa_cons (pe_tup (pa_cons pe_str (pa_cons (pv 0) pa_nil))) (pa_cons (pe_call F_prime_paper (hr.mono (by decide)) rfl g_prime_paper k_prime_paper b_prime_paper .nil pass0 (pa_cons (pv 0) pa_nil)) pa_nil))))) pss_nil)
      (pss_one (ps_ret (pe_tup (pa_cons (pe_tup (pa_cons pe_str (pa_cons (pv 0) pa_nil))) (pa_cons (pe_tup (pa_cons (pv 1) (pa_cons (pe_op op_fdivW (pv 0) (pv 1)) pa_nil))) pa_nil))))))))
/-! ### prime_parts_answer -/
theorem sc_prime_parts_answer : FnScope ["number", "parts", "prime", "_"] ["number"] (defScope s_prime_parts_answer) := ⟨rfl, rfl, rfl, by decide +kernel, rfl, by decide +kernel, by decide +kernel⟩
def sp_prime_parts_answer (K : PySem.W.Frag) : Sp := fun vs H Q E => ∃ v : V, vs = [v] ∧ Kn H v ∧ OutI v 1 (10 ^ 8) ∧ RaiseN K E H v
theorem len_prime_parts_answer {K : PySem.W.Frag} {vs : List V} {H : Hp} {Q : VK} {E : XK} (h : sp_prime_parts_answer K vs H Q E) : vs.length = ["number"].length := by
  obtain ⟨_, rfl, _⟩ := h
  rfl
def t_prime_parts_answer (K : PySem.W.Frag) (E : XK) : TS := (tSeq (tDrop (tCall (sp_check_between K) [] E (tCons (tVar 0) (tCons (tC (.int 1)) (tCons (tC (.int 100000000)) tNil)))))
  (tSeq (tAsg (tCall (sp_prime_powers K) [] E0 (tCons (tVar 0) tNil)) (gName 1))
  (tRet (tTup (tCons (tTup (tCons (tC (.str "prime parts")) (tCons (tVar 0) (tCons (tVar 1) tNil)))) (tCons (tCB (rTupOf K) (tCons (tLc (iTup K (tVar 1)) (gTup K 2 (gCons (gName 2) (gCons (gName 3) gNil))) tYes (tCall (sp_prime_paper K) [] E0 (tCons (tVar 2) tNil)) [2, 3]) tNil)) tNil))))))
theorem pure_prime_parts_answer (K : PySem.W.Frag) (vs : List V) (H : Hp) (Q : VK) (E : XK) (h : sp_prime_parts_answer K vs H Q E) : t_prime_parts_answer K E { nx := fun _ H' => Q .non H', rt := Q } (start ["number", "parts", "prime", "_"] vs) H := by
  obtain ⟨v, rfl, hk, ho, hr⟩ := h
  unfold t_prime_parts_answer
  walk_at "z"
  refine ⟨v, _, _, rfl, hk, fun _ => hr, fun n e h1 h2 => ?_⟩
  have := ho n e
  omega
theorem ok_prime_parts_answer {P : Program} {w : World} {K : PySem.W.Frag} {mg : Str → Option Value} {base : Heap} (T : Tx K mg) : OkkX P w K mg base 4 "prime_parts_answer" ["number"] (sp_prime_parts_answer K) := by
  obtain ⟨fd_check_between, F_check_between, b_check_between, g_check_between, k_check_between⟩ := ok_check_between (P := P) (w := w) (base := base) T
  obtain ⟨fd_prime_powers, F_prime_powers, b_prime_powers, g_prime_powers, k_prime_powers⟩ := ok_prime_powers (P := P) (w := w) (base := base) T
  obtain ⟨fd_prime_paper, F_prime_paper, b_prime_paper, g_prime_paper, k_prime_paper⟩ := ok_prime_paper (P := P) (w := w) (base := base) T
  obtain ⟨_, hc_MOST⟩ := T.c_MOST
  have hf_tuple := T.n_tuple
  obtain ⟨fd, F⟩ := T.f_prime_parts_answer
  refine ⟨fd, F.ok sc_prime_parts_answer (fun vs H Q E h => len_prime_parts_answer h) (fun cdv A outer s H vs Q E hr h => ⟨t_prime_parts_answer K E, ?_, pure_prime_parts_answer K vs H Q E h⟩), F.bindsN (fun _ _ _ _ _ _ us hl => match us, hl with | [_], _ => rfl), T.g_prime_parts_answer, F.kp⟩
  exact (pss_cons (ps_expr (pe_call F_check_between (hr.mono (by decide)) rfl g_check_between k_check_between b_check_between .nil (passes_call (takes_of rfl rfl rfl rfl) (fun _ _ _ _ h => h)) (pa_cons (pv 0) (pa_cons pe_int (pa_cons (pe_glob rfl hc_MOST ⟨_, rfl⟩) pa_nil)))))
      (pss_cons (ps_set (i := 1) sc_prime_parts_answer.nd rfl (by first | exact Or.inl rfl | exact Or.inr rfl) (pe_call F_prime_powers (hr.mono (by decide)) rfl g_prime_powers k_prime_powers b_prime_powers .nil pass0 (pa_cons (pv 0) pa_nil)))
      (pss_one (ps_ret (pe_tup (pa_cons (pe_tup (pa_cons pe_str (pa_cons (pv 0) (pa_cons (pv 1) pa_nil)))) (pa_cons (pe_callTy call_tuple_of (by rfl) hf_tuple (by decide +kernel) (pa_cons (pe_lc (own := [("prime", 2), ("_", 3)]) (g := (gTup K 2 (gCons (gName 2) (gCons (gName 3) gNil)))) (tt := tYes) rfl sc_prime_parts_answer.nd (pi_tup (pv 1)) (blkOk_by (own := [("prime", 2), ("_", 3)]) (N := ["number", "parts", "prime", "_"]) (sc := defScope s_prime_parts_answer) (by decide +kernel)) (fun _ _ _ _ _ => (pg_tup rfl (pgs_cons (pg_name (i := 2) sc_prime_parts_answer.nd rfl (by first | exact Or.inl rfl | exact Or.inr rfl)) (pgs_cons (pg_name (i := 3) sc_prime_parts_answer.nd rfl (by first | exact Or.inl rfl | exact Or.inr rfl)) pgs_nil)))) (fun _ _ _ _ _ => pts_nil) (fun _ _ _ _ _ => (pe_call F_prime_paper (hr.mono (by decide)) rfl g_prime_paper k_prime_paper b_prime_paper .nil pass0 (pa_cons (pv 2) pa_nil)))) pa_nil)) pa_nil)))))))
/-! ### order_of -/
theorem sc_order_of : FnScope ["modulus", "number", "order", "prime", "often", "_"] ["modulus", "number"] (defScope s_order_of) := ⟨rfl, rfl, rfl, by decide +kernel, rfl, by decide +kernel, by decide +kernel⟩
def sp_order_of (K : PySem.W.Frag) : Sp := fun vs H Q E => ∃ v w : V, vs = [v, w] ∧ Kn H v ∧ Kn H w ∧ (OutI v 1 (10 ^ 8) → RaiseN K E H v) ∧ (∀ m : Nat, v = .int m → 1 ≤ m → m ≤ 10 ^ 8 → (OutI w (1 - 10 ^ 60) (10 ^ 60 - 1) → RaiseN K E H w) ∧
  ∀ n, w = .int n → -(10 ^ 60) < n → n < 10 ^ 60 → (Nat.gcd m n.natAbs ≠ 1 → E (.ref (He.ga K "InvalidOperation")) none H) ∧ (Nat.gcd m n.natAbs = 1 → n ^ (cuN (ppN m)) % (m : Int) = 1 % (m : Int) ∧ ∀ (k : Nat) H', Same H H' → Q (.int (k : Int)) H'))
theorem len_order_of {K : PySem.W.Frag} {vs : List V} {H : Hp} {Q : VK} {E : XK} (h : sp_order_of K vs H Q E) : vs.length = ["modulus", "number"].length := by
  obtain ⟨_, _, rfl, _⟩ := h
  rfl
def t_order_of_f1_b (K : PySem.W.Frag) (E : XK) : TS := (tIfS (tTest (tOp rEq (tCall (sp_power_modulo K) [] E0 (tCons (tVar 1) (tCons (tOp rDivU (tVar 2) (tVar 3)) (tCons (tVar 0) tNil)))) (tOp rModU (tC (.int 1)) (tVar 0)))) (tAsg (tOp rDivU (tVar 2) (tVar 3)) (gName 2)) tNext)
def t_order_of_f2_b (K : PySem.W.Frag) (E : XK) : TS := (tFor (iRng1 (tCons (tVar 4) tNil)) (gName 5) (t_order_of_f1_b K E))
def t_order_of (K : PySem.W.Frag) (E : XK) : TS := (tSeq (tDrop (tCall (sp_check_between K) [] E (tCons (tVar 0) (tCons (tC (.int 1)) (tCons (tC (.int 100000000)) tNil)))))
  (tSeq (tDrop (tCall (sp_check_integer K) [] E (tCons (tVar 1) tNil)))
  (tSeq (tIfS (tTest (tOp rNe (tCB rGcd (tCons (tVar 0) (tCons (tVar 1) tNil))) (tC (.int 1)))) (tRaise0 (He.ga K "InvalidOperation") (fun cls d _ H => E cls d H)) tNext)
  (tSeq (tAsg (tCall (sp_count_units K) [] E0 (tCons (tCall (sp_prime_powers K) [] E0 (tCons (tVar 0) tNil)) tNil)) (gName 2))
  (tSeq (tFor (iTup K (tCall (sp_prime_powers K) [] E0 (tCons (tVar 2) tNil))) (gTup K 2 (gCons (gName 3) (gCons (gName 4) gNil))) (t_order_of_f2_b K E))
  (tRet (tVar 2)))))))
theorem pure_order_of (K : PySem.W.Frag) (vs : List V) (H : Hp) (Q : VK) (E : XK) (h : sp_order_of K vs H Q E) : t_order_of K E { nx := fun _ H' => Q .non H', rt := Q } (start ["modulus", "number", "order", "prime", "often", "_"] vs) H := by
  obtain ⟨v, w, rfl, hk1, hk2, hr, hq⟩ := h
  unfold t_order_of
  walk_at "z"
  refine ⟨v, _, _, rfl, hk1, hr, fun m0 e h1 h2 => ?_⟩
  subst e
  obtain ⟨m, rfl⟩ : ∃ m : Nat, m0 = m := ⟨m0.toNat, by omega⟩
  obtain ⟨hr2, hq⟩ := hq m rfl (by omega) (by omega)
  walk_at "z"
  refine ⟨w, rfl, hk2, hr2, fun n e h3 h4 => ?_⟩
  subst e
  obtain ⟨hx, hq⟩ := hq n rfl h3 h4
  walk_at "z"
  by_cases hg : Nat.gcd m n.natAbs = 1
  rotate_left
  · rw [if_pos (by rw [Int.natAbs_natCast]; omega)]
    exact hx hg
  obtain ⟨he, hq⟩ := hq hg
  have hm : 1 ≤ m := by omega
  have hm2 : m ≤ 10 ^ 8 := by omega
  rw [if_neg (by rw [Int.natAbs_natCast, hg]; decide)]
  refine ⟨m, rfl, hm, by omega, fun T xs H1 s1 hT hP => ?_⟩
  walk_at "z"
  refine ⟨T, xs, _, rfl, sqT_of hT, hP, cuOk_pp hm (by omega), ?_⟩
  walk_at "z"
  have gm := ppN_good hm
  obtain ⟨hN1, hN2⟩ := cuN_bounds gm.pr
  rw [gm.prod] at hN2
  revert he hN1 hN2
  generalize cuN (ppN m) = N
  intro he hN1 hN2
  obtain ⟨k, hk⟩ := ord_ex hN1 he
  have g := ppN_good hN1
  refine ⟨N, rfl, hN1, by omega, fun T2 xs2 H2 s2 hT2 hP2 => ?_⟩
  walk_at "z"
  refine ⟨T2, rfl, ⟨xs2, sqT_of hT2⟩, for_T (xs := xs2) (fun i σ H' => ∃ (o : Nat) (o1 o2 o3 : Option V), σ = [some (.int (m : Int)), some (.int n), some (.int (o : Int)), o1, o2, o3] ∧ H' = H2 ∧ OrdInv m n N k (ppN N) i o)
    ⟨N, _, _, _, rfl, rfl, OrdInv.start hN1 g hk he⟩ (fun i σ H' _ h => by obtain ⟨_, _, _, _, _, rfl, _⟩ := h; exact sqT_of hT2) (fun i x σ H' hx h N1 hN3 => ?_) (fun σ H' h => ?_)⟩
  · obtain ⟨o, o1, o2, o3, rfl, rfl, I⟩ := h
    obtain ⟨q, t, e1, rfl, e3⟩ := hP2.get hx
    obtain ⟨pq, eq⟩ := g.pr q (List.mem_of_getElem? e1)
    have p2 := pq.1
    obtain ⟨l1, l2, l3⟩ := g.le hN1 (List.mem_of_getElem? e1)
    have l4 : q.2 < 2 ^ 40 := Nat.lt_of_lt_of_le (Nat.lt_of_lt_of_le (Nat.lt_two_pow_self (n := q.2)) (Nat.pow_le_pow_left p2 q.2)) (by omega)
    unfold t_order_of_f2_b
    walk_at "z"
    refine ⟨_, sqT_of e3, rfl, ?_⟩
    walk_at "z"
    refine ⟨_, rfl, by omega, by omega, for_R (fun t σ H3 => ∃ (o' : Nat) (o3 : Option V), σ = [some (.int (m : Int)), some (.int n), some (.int (o' : Int)), some (.int (q.1 : Int)), some (.int (q.2 : Int)), o3] ∧ H3 = H' ∧ 1 ≤ o' ∧ o' ≤ N ∧ k ∣ o' ∧ OrdIn m n q o t o')
      ⟨o, _, rfl, rfl, I.pos, Nat.le_of_dvd hN1 I.oN, I.ko, 0, Nat.le_refl 0, by simp, .inl rfl⟩ (fun t σ H' ht h N2 hN4 => ?_) (fun σ H' h => ?_)⟩
    · obtain ⟨o', o4, rfl, rfl, p1, p3, p4, J⟩ := h
      have ht2 : t < q.2 := by omega
      have hd := J.dvd ht2 p2 (I.new i q (Nat.le_refl i) e1)
      unfold t_order_of_f1_b
      walk_at "z"
      refine ⟨divS (by omega) (by omega), n, _, _, rfl, Int.ediv_nonneg (by omega) (by omega), by omega, by omega, ?_⟩
      walk_at "z"
      have ec : ((o' : Int) / (q.1 : Int)).toNat = o' / q.1 := by rw [← Int.natCast_ediv]; rfl
      rw [ec]
      refine ⟨by omega, ?_⟩
      by_cases hp : n ^ (o' / q.1) % (m : Int) = 1 % (m : Int)
      · rw [if_pos hp]
        refine ⟨divS (by omega) (by omega), hN4 _ _ ⟨o' / q.1, _, by rw [Int.natCast_ediv], rfl, Nat.div_pos (Nat.le_of_dvd p1 hd) (by omega), Nat.le_trans (Nat.div_le_self _ _) p3, hk.dvd.mp hp, J.step1 hd hp⟩⟩
      · rw [if_neg hp]
        exact hN4 _ _ ⟨o', _, rfl, rfl, p1, p3, p4, J.step2 hd hp⟩
    · obtain ⟨o', o4, rfl, rfl, p1, p3, p4, J⟩ := h
      have et : (q.2 : Int).toNat = q.2 := rfl
      rw [et] at J
      exact hN3 _ _ ⟨o', _, _, _, rfl, rfl, I.next hN1 g hk e1 J p4⟩
  · obtain ⟨o, o1, o2, o3, rfl, rfl, I⟩ := h
    walk_at "z"
    have el : xs2.length = (ppN N).length := hP2.len
    rw [el] at I
    have := I.end hN1 g hk
    subst this
    exact hq _ _ (s1.trans s2)
theorem ok_order_of {P : Program} {w : World} {K : PySem.W.Frag} {mg : Str → Option Value} {base : Heap} (T : Tx K mg) : OkkX P w K mg base 4 "order_of" ["modulus", "number"] (sp_order_of K) := by
  obtain ⟨fd_power_modulo, F_power_modulo, b_power_modulo, g_power_modulo, k_power_modulo⟩ := ok_power_modulo (P := P) (w := w) (base := base) T
  obtain ⟨fd_check_integer, F_check_integer, b_check_integer, g_check_integer, k_check_integer⟩ := ok_check_integer (P := P) (w := w) (base := base) T
  obtain ⟨fd_check_between, F_check_between, b_check_between, g_check_between, k_check_between⟩ := ok_check_between (P := P) (w := w) (base := base) T
  obtain ⟨fd_prime_powers, F_prime_powers, b_prime_powers, g_prime_powers, k_prime_powers⟩ := ok_prime_powers (P := P) (w := w) (base := base) T
  obtain ⟨fd_count_units, F_count_units, b_count_units, g_count_units, k_count_units⟩ := ok_count_units (P := P) (w := w) (base := base) T
  obtain ⟨_, hc_MOST⟩ := T.c_MOST
  have hf_range := T.n_range
  have hb_gcd := T.b_gcd
  obtain ⟨fd, F⟩ := T.f_order_of
  refine ⟨fd, F.ok sc_order_of (fun vs H Q E h => len_order_of h) (fun cdv A outer s H vs Q E hr h => ⟨t_order_of K E, ?_, pure_order_of K vs H Q E h⟩), F.bindsN (fun _ _ _ _ _ _ us hl => match us, hl with | [_, _], _ => rfl), T.g_order_of, F.kp⟩
  exact (pss_cons (ps_expr (pe_call F_check_between (hr.mono (by decide)) rfl g_check_between k_check_between b_check_between .nil (passes_call (takes_of rfl rfl rfl rfl) (fun _ _ _ _ h => h)) (pa_cons (pv 0) (pa_cons pe_int (pa_cons (pe_glob rfl hc_MOST ⟨_, rfl⟩) pa_nil)))))
      (pss_cons (ps_expr (pe_call F_check_integer (hr.mono (by decide)) rfl g_check_integer k_check_integer b_check_integer .nil (passes_call (takes_of rfl rfl rfl rfl) (fun _ _ _ _ h => h)) (pa_cons (pv 1) pa_nil)))
      (pss_cons (ps_if (pt_cmpR op_ne (pe_callBfun cr_gcd rfl hb_gcd (pa_cons (pv 0) (pa_cons (pv 1) pa_nil))) pe_int (nomark _)) (pss_one (ps_raise0 rfl (takes_of rfl rfl rfl rfl) T.e_InvalidOperation.1 T.e_InvalidOperation.2 rfl (by decide))) pss_nil)
      (pss_cons (ps_set (i := 2) sc_order_of.nd rfl (by first | exact Or.inl rfl | exact Or.inr rfl) (pe_call F_count_units (hr.mono (by decide)) rfl g_count_units k_count_units b_count_units .nil pass0 (pa_cons (pe_call F_prime_powers (hr.mono (by decide)) rfl g_prime_powers k_prime_powers b_prime_powers .nil pass0 (pa_cons (pv 0) pa_nil)) pa_nil)))
      (pss_cons (ps_for (passes_of rfl) rfl (pi_tup (pe_call F_prime_powers (hr.mono (by decide)) rfl g_prime_powers k_prime_powers b_prime_powers .nil pass0 (pa_cons (pv 2) pa_nil))) (pg_tup rfl (pgs_cons (pg_name (i := 3) sc_order_of.nd rfl (by first | exact Or.inl rfl | exact Or.inr rfl)) (pgs_cons (pg_name (i := 4) sc_order_of.nd rfl (by first | exact Or.inl rfl | exact Or.inr rfl)) pgs_nil))) (pss_one (ps_for (passes_of rfl) rfl (pi_range1 rfl hf_range (pa_cons (pv 4) pa_nil)) (pg_name (i := 5) sc_order_of.nd rfl (by first | exact Or.inl rfl | exact Or.inr rfl)) (pss_one (ps_if (pt_cmpR op_eq (pe_call F_power_modulo (hr.mono (by decide)) rfl g_power_modulo k_power_modulo b_power_modulo .nil pass0 (pa_cons (pv 1) (pa_cons (pe_op op_fdivW (pv 2) (pv 3)) (pa_cons (pv 0) pa_nil)))) (pe_op op_mod pe_int (pv 0)) (nomark _)) (pss_one (ps_set (i := 2) sc_order_of.nd rfl (by first | exact Or.inl rfl | exact Or.inr rfl) (pe_op op_fdivW (pv 2) (pv 3)))) pss_nil)))))
      (pss_one (ps_ret (pv 2))))))))
/-! dice -/
def Dice (H : Hp) (d : Addr) : Prop := ∃ a b c : Int, H d = some (.lst [.int a, .int b, .int c])
theorem Keep.refl (d : Addr) (H : Hp) : Keep d H H := fun _ _ _ h => h
theorem Keep.trans {d : Addr} {H H1 H2 : Hp} (a : Keep d H H1) (b : Keep d H1 H2) : Keep d H H2 := fun c o n h => b c o n (a c o n h)
theorem Keep.put {d : Addr} {H H1 : Hp} {o : HO} (a : Keep d H H1) : Keep d H (L2.upd H1 d o) := fun b u n h => by rw [upd_ne n]; exact a b u n h
theorem Keep.same {d : Addr} {H H1 H2 : Hp} (a : Keep d H H1) (b : Same H1 H2) : Keep d H H2 := fun c o n h => b c o (a c o n h)
theorem Dice.same {d : Addr} {H H1 : Hp} (a : Dice H d) (b : Same H H1) : Dice H1 d := by
  obtain ⟨x, y, z, h⟩ := a
  exact ⟨x, y, z, b _ _ h⟩
theorem Keep.new {d p : Addr} {H H1 : Hp} {o : HO} (a : Keep d H H1) (hp : H1 p = none) : Keep d H (L2.upd H1 p o) := a.same (same_upd hp)
/-- a list of dice made on the way is nothing of the old heap -/
theorem Keep.out {d : Addr} {H0 H H1 : Hp} (s : Same H0 H) (n : H0 d = none) (a : Keep d H H1) : Same H0 H1 := fun b o h => a b o (ne_of_none h n) (s b o h)
theorem cpow {i j : Int} (h : 0 ≤ j ∧ j ≤ 1000000 ∧ i.natAbs < 2 ^ 64) : CPow i j := h
theorem divM {i m : Int} (h : 0 < m) (h2 : m < 2 ^ 250) : CDivW i m := wide_div (b := 250) h (by omega) (by decide) (by decide)
theorem atI_nat {α : Type} {xs : List α} {i : Nat} {x : α} (h : xs[i]? = some x) : atI xs (i : Int) = some x := by
  have hl := (List.getElem?_eq_some_iff.mp h).1
  unfold atI ixN
  rw [if_pos (by omega), if_pos (by omega)]
  exact h
open LamX in
/-- what _law_met makes of what it calls -/
def TMet (K : PySem.W.Frag) : (XK → Hp → VK → Prop) → Hp → VK → Prop := fun tl H Q =>
  tl (fun cls d H' => (cls = .ref (He.ga K "InvalidNumber") ∧ ∃ (dd : Addr) (v : V) (z : Str), d = some dd ∧ H' dd = some (.xd [("given", v)]) ∧ RepV K H' v z ∧ ∀ p, H' p = none → Q (.ref p) (upd H' p (.tup [.str "refused", .str "number", .str z]))) ∨
    (cls = .ref (He.ga K "InvalidOperation") ∧ ∀ p, H' p = none → Q (.ref p) (upd H' p (.tup [.str "refused", .str "operation"]))))
    H (fun _ H' => [V.str "fine"].length ≤ sizeLine ∧ ∀ p, H' p = none → Q (.ref p) (upd H' p (.tup [.str "fine"])))
open LamX in
theorem takes_len {X : Cx} {W : WX} (tk : Takes X W) : Takes X (fun cls d σ H => σ.length = X.N.length → W cls d σ H) := fun u s' ⟨a, B, sI, pins, σ, H, cls, d, e, I, nb, up, sky, na, os, ag, w⟩ =>
  tk u s' ⟨a, B, sI, pins, σ, H, cls, d, e, I, nb, up, sky, na, os, ag, w I.len⟩
open LamX in
theorem met_gives {X : Cx} (T : Tx X.K X.mg) (hgd : X.A.guards = some []) {cdv : Value} {k : Nat} (hr2 : Room (k + 1) (X.A.deeper (envOfC "_law_met" (defScope s__law_met) 0 (He.ga X.K "_law_met") cdv))) {q : Str} :
    GivesTo X ["call", "error"] "_law_met" (defScope s__law_met) (He.ga X.K "_law_met") cdv (defBody s__law_met) "call" q (TMet X.K) := by
  have hf_repr := T.n_repr
  have hu : X.A.units + 3 + 80 < cLine := hu80_of hr2
  intro f c' s H Q tl act hc h
  refine ⟨_, pss_cons (ps_try_mix (X := (cxOf C8.CX0 X.prog X.w X.K X.mg X.base ["call", "error"] "_law_met" (defScope s__law_met) (He.ga X.K "_law_met") cdv X.A X.stack s H C8.E0).nox)
      (tb := fun W D σ H => ∃ Ech : XK, (∀ cls d σ' H', σ'.length = 2 → Ech cls d H' → W cls d σ' H') ∧ σ[0]? = some (some (.ref f)) ∧ H c' = some (CodeO c' q) ∧ tl Ech H fun _ H' => D.nx σ H')
      rfl rfl takes0 (fun W pn xe tk _ => ?_)
      (Cls1.named (i := 1) (c := .ref (He.ga X.K "InvalidNumber")) ⟨rfl, by decide, .inl T.x_InvalidNumber.gC⟩ sc__law_met.nd rfl rfl
        (fun a oe cls d pn hz hf => pss_one (ps_ret (pe_tup (pa_cons pe_str (pa_cons pe_str (pa_cons (pe_callB (call_repV2 (K := X.K) rfl hgd hu) (by rfl) hf_repr (by decide +kernel) (pa_cons (pe_field1 T.x_InvalidNumber hz hf (pv 1)) pa_nil)) pa_nil))))))
        (Cls1.bare (c := .ref (He.ga X.K "InvalidOperation")) ⟨rfl, by decide, .inl T.e_InvalidOperation.1⟩ (fun a oe cls d pn hz hf => pss_one (ps_ret (pe_tup (pa_cons pe_str (pa_cons pe_str pa_nil))))) .nil)))
      (pss_one (ps_ret (pe_tup (pa_cons pe_str pa_nil)))), ?_⟩
  · refine ⟨fun pins s' σ H' D I h' => ?_⟩
    obtain ⟨Ech, hW, h1, h2, h3⟩ := h'
    have hp := fun p1 p2 => act _ pn xe Ech p1 p2 (takes_len tk) (fun cls d σ' H' e hl => hW cls d σ' H' hl e)
    exact (pss_one (ps_expr (hp _ _))).run pins s' σ H' D I ⟨h1, h2, h3⟩
  · refine ⟨_, fun cls d σ' H' hl e => ?_, rfl, hc, h⟩
    obtain ⟨o1, o2, rfl⟩ : ∃ o1 o2, σ' = [o1, o2] := by
      match σ', hl with
      | [a, b], _ => exact ⟨a, b, rfl⟩
    rcases e with ⟨rfl, dd, v, z, rfl, hd, hz, hQ⟩ | ⟨rfl, hQ⟩
    · refine ⟨true, T.m_InvalidNumber_InvalidNumber, fun _ a na => ?_, fun z => (by cases z)⟩
      exact ⟨.ref a, rfl, rfl, rfl, dd, v, rfl, hd, v, z, rfl, hz, (show 3 ≤ sizeLine by decide), fun p hp => hQ p hp⟩
    · refine ⟨false, T.m_InvalidOperation_InvalidNumber, fun z => (by cases z), fun _ => ⟨true, T.m_InvalidOperation_InvalidOperation, fun _ a na => ?_, fun z => (by cases z)⟩⟩
      exact ⟨by decide, fun p hp => hQ p hp⟩
theorem Pl.kn {H : Hp} {no : List Addr} : ∀ {d : PyData} {v : V}, Pl H no d v → Kn H v := fun {d v} h => by
  cases d with
  | list ds =>
    rw [Pl] at h
    obtain ⟨a, xs, rfl, _, q, _⟩ := h
    exact .inl ⟨xs, q⟩
  | tuple ds =>
    rw [Pl] at h
    obtain ⟨a, xs, rfl, _, q, _⟩ := h
    exact .inr (.inl ⟨xs, q⟩)
  | dict kvs =>
    rw [Pl] at h
    obtain ⟨_, a, rfl, _, q⟩ := h
    exact .inr (.inr ⟨_, q⟩)
  | _ =>
    rw [Pl] at h
    subst h
    trivial
/-- a call that raises InvalidNumber(v) -/
theorem met_num {K : PySem.W.Frag} {no : List Addr} {d : PyData} {v : V} {H : Hp} {Q : VK} {tl : XK → Hp → VK → Prop} (p : Pl H no d v) (r : repOk d = true) (h : ∀ E Q', RaiseN K E H v → tl E H Q')
    (hq : ∀ q H', Same H H' → H' q = some (.tup [.str "refused", .str "number", .str d.shown]) → Q (.ref q) H') : TMet K tl H Q := by
  refine h _ _ fun dd hd => .inl ⟨rfl, dd, v, d.shown, rfl, upd_same, (p.mono (KN.new hd)).rep r, fun q hn => ?_⟩
  exact hq q _ (same_new (same_upd hd) hn) upd_same
theorem met_op {K : PySem.W.Frag} {H : Hp} {Q : VK} {tl : XK → Hp → VK → Prop} {G : Hp → Prop} (h : ∀ E Q', (∀ H', G H' → E (.ref (He.ga K "InvalidOperation")) none H') → tl E H Q')
    (hq : ∀ q H1 H', G H1 → Same H1 H' → H' q = some (.tup [.str "refused", .str "operation"]) → Q (.ref q) H') : TMet K tl H Q := by
  refine h _ _ fun H' g => .inr ⟨rfl, fun q hn => ?_⟩
  exact hq q _ _ g (same_upd hn) upd_same
theorem met_fine {K : PySem.W.Frag} {H : Hp} {Q : VK} {tl : XK → Hp → VK → Prop} (h : ∀ E Q', (∀ v H', Same H H' → Q' v H') → tl E H Q')
    (hq : ∀ q H', Same H H' → H' q = some (.tup [.str "fine"]) → Q (.ref q) H') : TMet K tl H Q := by
  refine h _ _ fun v H' s => ⟨by decide, fun q hn => ?_⟩
  exact hq q _ (same_new s hn) upd_same
/-- v is the plain d, may be shown -/
def Odd (H : Hp) (no : List Addr) (v : V) (d : PyData) : Prop := Pl H no d v ∧ repOk d = true
/-- what stays the same behind the picks -/
structure Cxt (K : PySem.W.Frag) (D : Addr) (H0 : Hp) (no : List Addr) (vs : List (V × PyData)) (H : Hp) : Prop where
  kn : KN (D :: no) H0 H
  tb : LamX.Tabs (Ts K) H
  dice : Dice H D
  dn : D ∉ no
  odd : ∀ q ∈ vs, Odd H (D :: no) q.1 q.2
theorem Dice.ext {H H1 : Hp} {D : Addr} (h : Dice H D) (e : LamX.ExtN H H1) : Dice H1 D := by
  obtain ⟨x, y, z, h⟩ := h
  exact ⟨x, y, z, e D _ h (fun _ w => by cases w)⟩
theorem Cxt.ext {K : PySem.W.Frag} {D : Addr} {H0 H H1 : Hp} {no : List Addr} {vs : List (V × PyData)} (c : Cxt K D H0 no vs H) (e : LamX.ExtN H H1) (t : LamX.Tabs (Ts K) H1) : Cxt K D H0 no vs H1 :=
  ⟨c.kn.trans (KN.ext e), t, c.dice.ext e, c.dn, fun q hq => ⟨(c.odd q hq).1.mono (KN.ext e), (c.odd q hq).2⟩⟩
theorem Cxt.same {K : PySem.W.Frag} {D : Addr} {H0 H H1 : Hp} {no : List Addr} {vs : List (V × PyData)} (c : Cxt K D H0 no vs H) (e : Same H H1) : Cxt K D H0 no vs H1 := c.ext (ExtN.same e) (c.tb.ext fun b o h => e b o h)
theorem Cxt.keep {K : PySem.W.Frag} {D : Addr} {H0 H H1 : Hp} {no : List Addr} {vs : List (V × PyData)} (c : Cxt K D H0 no vs H) (k : Keep D H H1) (d : Dice H1 D) : Cxt K D H0 no vs H1 := by
  have kn : KN (D :: no) H H1 := fun b o n e _ => k b o (fun z => n (z ▸ List.mem_cons_self)) e
  obtain ⟨x, y, z, hd⟩ := c.dice
  exact ⟨c.kn.trans kn, Tabs.keep c.tb hd k, d, c.dn, fun q hq => ⟨(c.odd q hq).1.mono kn, (c.odd q hq).2⟩⟩
/-- a list that is made, and may change -/
theorem Cxt.list {K : PySem.W.Frag} {D L : Addr} {H0 H : Hp} {no : List Addr} {vs : List (V × PyData)} {xs : List V} (c : Cxt K D H0 no vs H) (n : H L = none) : Cxt K D H0 (L :: no) vs (upd H L (.lst xs)) := by
  have c1 := c.same (same_upd (o := .lst xs) n)
  obtain ⟨x, y, z, hd⟩ := c.dice
  refine ⟨c1.kn.less fun b hb => ?_, c1.tb, c1.dice, fun hm => ?_, fun q hq => ⟨?_, (c1.odd q hq).2⟩⟩
  · rcases List.mem_cons.mp hb with e | e
    · exact e ▸ List.mem_cons_self
    · exact List.mem_cons_of_mem _ (List.mem_cons_of_mem _ e)
  · rcases List.mem_cons.mp hm with e | e
    · rw [e, n] at hd; cases hd
    · exact c.dn e
  · have p := Pl.fresh n q.2 q.1 (c.odd q hq).1
    have p2 := p.mono (KN.new (o := .lst xs) n)
    exact p2.perm fun b hb => by
      rcases List.mem_cons.mp hb with e | e
      · exact e ▸ List.mem_cons_of_mem _ List.mem_cons_self
      · rcases List.mem_cons.mp e with e | e
        · exact e ▸ List.mem_cons_self
        · exact List.mem_cons_of_mem _ (List.mem_cons_of_mem _ e)
theorem Cxt.put {K : PySem.W.Frag} {D L : Addr} {H0 H : Hp} {no : List Addr} {vs : List (V × PyData)} {xs ys : List V} (c : Cxt K D H0 no vs H) (hl : L ∈ no) (h : H L = some (.lst xs)) : Cxt K D H0 no vs (upd H L (.lst ys)) := by
  have kn : KN (D :: no) H (upd H L (.lst ys)) := KN.put (List.mem_cons_of_mem _ hl)
  have hne : D ≠ L := fun e => c.dn (e ▸ hl)
  obtain ⟨x, y, z, hd⟩ := c.dice
  refine ⟨c.kn.trans kn, Tabs.keep c.tb h (fun b o n e => by rw [upd_ne n]; exact e), ⟨x, y, z, by rw [upd_ne hne]; exact hd⟩, c.dn, fun q hq => ⟨(c.odd q hq).1.mono kn, (c.odd q hq).2⟩⟩
/-- the list of words so far -/
structure Wds (K : PySem.W.Frag) (D : Addr) (H0 : Hp) (no : List Addr) (vs : List (V × PyData)) (L : Addr) (ws : List (List Str)) (H : Hp) : Prop where
  c : Cxt K D H0 no vs H
  l : L ∈ no
  t : Told H L ws
def numW (d : PyData) : List Str := ["refused", "number", d.shown]
theorem numW_ok {d : PyData} (r : repOk d = true) : (numW d).all PyData.strOk = true := by
  unfold numW
  rw [List.all_cons, List.all_cons, List.all_cons, repOk_str r]
  decide +kernel
theorem Dice.ne {H : Hp} {D p : Addr} (h : Dice H D) (n : H p = none) : D ≠ p := fun e => by
  obtain ⟨x, y, z, h⟩ := h
  rw [e, n] at h
  cases h
theorem Keep.kn {D : Addr} {H H' : Hp} (k : Keep D H H') : KN [D] H H' := fun b o n e _ => k b o (fun z => n (z ▸ List.mem_cons_self)) e
theorem pl_tup2 {H : Hp} {D p : Addr} {i j : Int} (h : H p = some (.tup [V.int i, V.int j])) (n : D ≠ p) : Pl H [D] (.tuple [.int i, .int j]) (V.ref p) := by
  rw [Pl]
  refine ⟨p, _, rfl, fun z => n (by simpa using z : p = D).symm, h, ?_⟩
  rw [PlAll]
  refine ⟨_, _, rfl, by rw [Pl], ?_⟩
  rw [PlAll]
  exact ⟨_, _, rfl, by rw [Pl], by rw [PlAll]⟩
theorem pl_tup1 {H : Hp} {D p : Addr} {i : Int} (h : H p = some (.tup [V.int i])) (n : D ≠ p) : Pl H [D] (.tuple [.int i]) (V.ref p) := by
  rw [Pl]
  refine ⟨p, _, rfl, fun z => n (by simpa using z : p = D).symm, h, ?_⟩
  rw [PlAll]
  exact ⟨_, _, rfl, by rw [Pl], by rw [PlAll]⟩
theorem pl_lst1 {H : Hp} {D p : Addr} {i : Int} (h : H p = some (.lst [V.int i])) (n : D ≠ p) : Pl H [D] (.list [.int i]) (V.ref p) := by
  rw [Pl]
  refine ⟨p, _, rfl, fun z => n (by simpa using z : p = D).symm, h, ?_⟩
  rw [PlAll]
  exact ⟨_, _, rfl, by rw [Pl], by rw [PlAll]⟩
theorem pl_dic0 {H : Hp} {D p : Addr} (h : H p = some (.dK [])) (n : D ≠ p) : Pl H [D] (.dict []) (V.ref p) := by
  rw [Pl]
  exact ⟨rfl, p, rfl, fun z => n (by simpa using z : p = D).symm, h⟩
/-- told.append(_law_met(lambda: ..)), where InvalidNumber(v) is raised -/
theorem app_num {K : PySem.W.Frag} {D L : Addr} {H0 H : Hp} {no : List Addr} {vs : List (V × PyData)} {ws : List (List Str)} {v : V} {d : PyData} {tl : XK → Hp → VK → Prop} {R : V → Hp → Prop} (s : Wds K D H0 no vs L ws H) (hl : ws.length < 1000) (hv : (v, d) ∈ vs)
    (h : ∀ H1 E Q', Pl H1 (D :: no) d v → Cxt K D H0 no vs H1 → RaiseN K E H1 v → tl E H1 Q') (hr : ∀ H3, Wds K D H0 no vs L (ws ++ [numW d]) H3 → R .non H3) :
    tyV K "list" (V.ref L) H ∧ LamX.Tabs (Ts K) H ∧ ∀ H1, LamX.ExtN H H1 → LamX.Tabs (Ts K) H1 → TMet K tl H1 fun x H2 => rAppend (V.ref L) [x] H2 R := by
  obtain ⟨xs, hL, hx⟩ := s.t
  refine ⟨.inl ⟨rfl, xs, sqL_of hL⟩, s.c.tb, fun H1 e1 t1 => ?_⟩
  have c1 := s.c.ext e1 t1
  obtain ⟨p, r⟩ := c1.odd _ hv
  refine met_num p r (fun E Q' hR => h H1 E Q' p c1 hR) fun q H2 s2 hq => ?_
  have e2 : LamX.ExtN H H2 := e1.trans (ExtN.same s2)
  obtain ⟨xs2, hL2, hx2⟩ := s.t.ext e2
  have c2 := c1.same s2
  refine ⟨L, xs2, .ref q, rfl, rfl, hL2, ?_, hr _ ⟨c2.put s.l hL2, s.l, Told.put hL2 hx2 (ss := numW d) hq (numW_ok r)⟩⟩
  have := hx2.len
  rw [sizeLine_eq]
  omega
theorem Cxt.restart {K : PySem.W.Frag} {D : Addr} {H0 H : Hp} {no : List Addr} {vs : List (V × PyData)} (c : Cxt K D H0 no vs H) : Cxt K D H no vs H := ⟨KN.refl _ _, c.tb, c.dice, c.dn, c.odd⟩
theorem Cxt.back {K : PySem.W.Frag} {D : Addr} {H0 H H1 : Hp} {no : List Addr} {vs : List (V × PyData)} (c : Cxt K D H no vs H1) (k : KN (D :: no) H0 H) : Cxt K D H0 no vs H1 := ⟨k.trans c.kn, c.tb, c.dice, c.dn, c.odd⟩
/-- L was not there before -/
def New (H0 : Hp) (D : Addr) (no : List Addr) (L : Addr) : Prop := ∀ o, H0 L = some o → L ∈ D :: no ∨ ∃ ps, o = .tbl ps
theorem Cxt.new {K : PySem.W.Frag} {D L : Addr} {H0 H : Hp} {no : List Addr} {vs : List (V × PyData)} (c : Cxt K D H0 no vs H) (n : H L = none) : New H0 D no L := fun o e => by
  refine Classical.byContradiction fun h => ?_
  have h1 : L ∉ D :: no := fun z => h (.inl z)
  have h2 := c.kn L o h1 e (fun ps z => h (.inr ⟨ps, z⟩))
  rw [n] at h2
  cases h2
theorem New.ne {H0 : Hp} {D L W : Addr} {no : List Addr} {xs : List V} (n : New H0 D no L) (h : H0 W = some (.tup xs)) (hw : W ∉ D :: no) : W ≠ L := fun e => by
  subst e
  rcases n _ h with z | ⟨ps, z⟩
  · exact hw z
  · cases z
theorem Cxt.drop {K : PySem.W.Frag} {D L : Addr} {H0 H : Hp} {no : List Addr} {vs : List (V × PyData)} (c : Cxt K D H0 (L :: no) vs H) (n : New H0 D no L) : Cxt K D H0 no vs H := by
  refine ⟨fun b o hb e t => c.kn b o (fun z => ?_) e t, c.tb, c.dice, fun z => c.dn (List.mem_cons_of_mem _ z), fun q hq => ⟨(c.odd q hq).1.perm fun b hb => ?_, (c.odd q hq).2⟩⟩
  · rcases List.mem_cons.mp z with y | y
    · exact hb (y ▸ List.mem_cons_self)
    · rcases List.mem_cons.mp y with y | y
      · subst y
        rcases n o e with w | ⟨ps, w⟩
        · exact hb w
        · exact t ps w
      · exact hb (List.mem_cons_of_mem _ y)
  · rcases List.mem_cons.mp hb with y | y
    · exact y ▸ List.mem_cons_self
    · exact List.mem_cons_of_mem _ (List.mem_cons_of_mem _ y)
/-- told = [_law_met(lambda: ..)] -/
theorem first_num {K : PySem.W.Frag} {D : Addr} {H0 H : Hp} {no : List Addr} {vs : List (V × PyData)} {v : V} {d : PyData} {tl : XK → Hp → VK → Prop} {R : V → Hp → Addr → Prop} (c : Cxt K D H0 no vs H) (hv : (v, d) ∈ vs)
    (h : ∀ H1 E Q', Pl H1 (D :: no) d v → Cxt K D H0 no vs H1 → RaiseN K E H1 v → tl E H1 Q') (hr : ∀ L q H3, New H0 D no L → Wds K D H0 (L :: no) vs L [numW d] (upd H3 L (.lst [.ref q])) → R (.ref q) H3 L) :
    LamX.Tabs (Ts K) H ∧ ∀ H1, LamX.ExtN H H1 → LamX.Tabs (Ts K) H1 → TMet K tl H1 fun x H2 => 1 ≤ sizeLine ∧ ∀ p, H2 p = none → R x H2 p := by
  refine ⟨c.tb, fun H1 e1 t1 => ?_⟩
  have c1 := c.ext e1 t1
  obtain ⟨p, r⟩ := c1.odd _ hv
  refine met_num p r (fun E Q' hR => h H1 E Q' p c1 hR) fun q H2 s2 hq => ⟨by decide, fun L hn => hr L q _ ((c1.same s2).new hn) ⟨(c1.same s2).list hn, List.mem_cons_self, [.ref q], upd_same, ?_⟩⟩
  exact .cons ⟨q, rfl, (same_upd hn) _ _ hq, numW_ok r⟩ .nil
theorem OutI.mono {v : V} {lo hi lo' : Int} (h : OutI v lo hi) (hl : lo ≤ lo' ) (hl2 : ∀ n, v = .int n → n < lo' → n < lo) : OutI v lo' hi := fun n e => (h n e).imp (fun z => by omega) id
theorem eqv_strs : ∀ ss : List Str, PyData.eqvAll (ss.map PyData.str) (ss.map PyData.str) = true
  | [] => by rw [List.map_nil, PyData.eqvAll]
  | s :: ss => by rw [List.map_cons, PyData.eqvAll, eqv_strs ss, PyData.eqv]; simp
theorem eqv_tsd : ∀ ws : List (List Str), PyData.eqvAll (tsD ws) (tsD ws) = true
  | [] => by rw [tsD, List.map_nil, PyData.eqvAll]
  | s :: ss => by
    have ih := eqv_tsd ss
    unfold tsD at ih ⊢
    rw [List.map_cons, PyData.eqvAll, ih, PyData.eqv, eqv_strs]
    rfl
theorem eqv_refl_ts (ws : List (List Str)) : PyData.eqv (.list (tsD ws)) (.list (tsD ws)) = true := by
  rw [PyData.eqv]
  exact eqv_tsd ws
/-- told != due, where both have the same words -/
theorem ne_told {K : PySem.W.Frag} {L M : Addr} {ws : List (List Str)} {H : Hp} {Q : VK} (t : Told H L ws) (u : Told H M ws) (q : Q (.bl false) H) : rNeD K (.ref L) (.ref M) H Q := by
  refine ⟨_, _, t.dp, u.dp, t.shaped, u.shaped, ?_⟩
  rw [eqv_refl_ts]
  exact q
theorem eq_told {K : PySem.W.Frag} {L M : Addr} {ws : List (List Str)} {H : Hp} {Q : VK} (t : Told H L ws) (u : Told H M ws) (q : Q (.bl true) H) : rEqD K (.ref L) (.ref M) H Q := by
  refine ⟨_, _, t.dp, u.dp, t.shaped, u.shaped, ?_⟩
  rw [eqv_refl_ts]
  exact q
/-! ### _law_dice -/
theorem sc__law_dice : FnScope ["script", "spot", "cell", "left"] ["script", "spot"] (defScope s__law_dice) := ⟨rfl, rfl, rfl, by decide +kernel, rfl, by decide +kernel, by decide +kernel⟩
def sp__law_dice (K : PySem.W.Frag) : Sp := fun vs H Q _ => ∃ (a : Addr) (ns : List Int) (spot : Nat), vs = [.ref a, .int (spot : Int)] ∧ SqL K H a (ns.map V.int) ∧
  ∀ D H', H D = none → Same H H' → Dice H' D → Q (.ref D) H'
theorem len__law_dice {K : PySem.W.Frag} {vs : List V} {H : Hp} {Q : VK} {E : XK} (h : sp__law_dice K vs H Q E) : vs.length = ["script", "spot"].length := by
  obtain ⟨_, _, _, rfl, _⟩ := h
  rfl
def t__law_dice (K : PySem.W.Frag) : TS := (tSeq (tAsg (tIf (tTest (tOp rLtI (tVar 1) (tCB (rLenU K) (tCons (tVar 0) tNil)))) (tCB (rInt1) (tCons (tOp (rIxA K) (tVar 0) (tVar 1)) tNil)) (tOp rAdd (tOp rMulU (tC (.int 97)) (tVar 1)) (tC (.int 59)))) (gName 2))
  (tSeq (tAsg (tOp rModU (tCB (rMax2) (tCons (tC (.int 0)) (tCons (tOp rSub (tCB (rAbs) (tCons (tVar 2) tNil)) (tOp rPowU (tC (.int 10)) (tC (.int 16)))) tNil))) (tOp rMulU (tOp rPowU (tC (.int 10)) (tC (.int 58))) (tOp rPowU (tC (.int 10)) (tC (.int 60))))) (gName 3))
  (tRet (tLst (tCons (tVar 3) (tCons (tOp rAdd (tOp rAdd (tOp rAdd (tOp rMulU (tOp rModU (tCB (rAbs) (tCons (tVar 2) tNil)) (tC (.int 1152921504606846733))) (tC (.int 83))) (tOp rMulU (tC (.int 1033)) (tVar 1))) (tOp rMulU (tC (.int 61)) (tCB (rInt1) (tCons (tOp rLtI (tVar 2) (tC (.int 0))) tNil)))) (tC (.int 29))) (tCons (tC (.int 0)) tNil)))))))
theorem big_mul : CMul (10 ^ (58 : Int).toNat) (10 ^ (60 : Int).toNat) ∨ CMulW (10 ^ (58 : Int).toNat) (10 ^ (60 : Int).toNat) :=
  .inr (wide_mul (a := 200) (b := 210) (by decide) (by decide) (by decide) (by decide) (by decide))
theorem pure__law_dice (K : PySem.W.Frag) (vs : List V) (H : Hp) (Q : VK) (E : XK) (h : sp__law_dice K vs H Q E) : t__law_dice K { nx := fun _ H' => Q .non H', rt := Q } (start ["script", "spot", "cell", "left"] vs) H := by
  obtain ⟨a, ns, spot, rfl, hS, hq⟩ := h
  unfold t__law_dice
  walk_at "z"
  refine lenL hS ?_
  walk_at "z"
  by_cases hs : (spot : Int) < ((ns.map V.int).length : Int)
  · rw [if_pos hs]
    have hs2 : spot < ns.length := by simpa using hs
    refine ixL hS (v := .int ns[spot]) (atI_nat (by simp [hs2])) ?_
    walk_at "z"
    refine ⟨cpow (by decide), cpow (by decide), cpow (by decide), big_mul, by decide, by decide, mulR (by decide), mulS (by decide), mulS (by decide), by decide, fun p hp => ?_⟩
    exact hq p _ hp (same_upd hp) ⟨_, _, _, upd_same⟩
  · rw [if_neg hs]
    refine ⟨mulS (by decide), cpow (by decide), cpow (by decide), cpow (by decide), big_mul, by decide, by decide, mulR (by decide), mulS (by decide), mulS (by decide), by decide, fun p hp => ?_⟩
    exact hq p _ hp (same_upd hp) ⟨_, _, _, upd_same⟩
theorem ok__law_dice {P : Program} {w : World} {K : PySem.W.Frag} {mg : Str → Option Value} {base : Heap} (T : Tx K mg) : Okk P w K mg base 1 "_law_dice" ["script", "spot"] (sp__law_dice K) := by
  have hf_abs := T.n_abs
  have hf_int := T.n_int
  have hf_len := T.n_len
  have hf_max := T.n_max
  obtain ⟨fd, F⟩ := T.f__law_dice
  refine ⟨fd, F.ok sc__law_dice (fun vs H Q E h => len__law_dice h) (fun cdv A outer s H vs Q E hr h => ⟨t__law_dice K, PSs.nox ?_, pure__law_dice K vs H Q E h⟩), F.bindsN (fun _ _ _ _ _ _ us hl => match us, hl with | [_, _], _ => rfl), T.g__law_dice, F.kp⟩
  exact (pss_cons (ps_set (i := 2) sc__law_dice.nd rfl (by first | exact Or.inl rfl | exact Or.inr rfl) (pe_ifExp (pt_cmpR op_lt (pv 1) (pe_callB call_len_seq (by rfl) hf_len (by decide +kernel) (pa_cons (pv 0) pa_nil)) (nomark _)) (pe_callTy call_int1 (by rfl) hf_int (by decide +kernel) (pa_cons (pe_ix ix_lt (pv 0) (pv 1) (fun _ _ => rfl)) pa_nil)) (pe_op op_add (pe_op op_mulU pe_int (pv 1)) pe_int)))
      (pss_cons (ps_set (i := 3) sc__law_dice.nd rfl (by first | exact Or.inl rfl | exact Or.inr rfl) (pe_op op_mod (pe_callB (call_max2 rfl) (by rfl) hf_max (by decide +kernel) (pa_cons pe_int (pa_cons (pe_op op_sub (pe_callB call_abs (by rfl) hf_abs (by decide +kernel) (pa_cons (pv 2) pa_nil)) (pe_op op_pow pe_int pe_int)) pa_nil))) (pe_op op_mulU (pe_op op_pow pe_int pe_int) (pe_op op_pow pe_int pe_int))))
      (pss_one (ps_ret (pe_lst (pa_cons (pv 3) (pa_cons (pe_op op_add (pe_op op_add (pe_op op_add (pe_op op_mulU (pe_op op_mod (pe_callB call_abs (by rfl) hf_abs (by decide +kernel) (pa_cons (pv 2) pa_nil)) pe_int) pe_int) (pe_op op_mulU pe_int (pv 1))) (pe_op op_mulU pe_int (pe_callTy call_int1 (by rfl) hf_int (by decide +kernel) (pa_cons (pe_cmpR op_lt (pv 2) pe_int (nomark _)) pa_nil)))) pe_int) (pa_cons pe_int pa_nil))))))))
/-! ### _law_roll -/
theorem sc__law_roll : FnScope ["dice", "most", "found", "one", "two"] ["dice", "most"] (defScope s__law_roll) := ⟨rfl, rfl, rfl, by decide +kernel, rfl, by decide +kernel, by decide +kernel⟩
def sp__law_roll (K : PySem.W.Frag) : Sp := fun vs H Q _ => ∃ (d : Addr) (most : Int), vs = [.ref d, .int most] ∧ Dice H d ∧ 0 < most ∧ most < 2 ^ 250 ∧ ∀ r H', 0 ≤ r → r < most → Keep d H H' → Dice H' d → Q (.int r) H'
theorem len__law_roll {K : PySem.W.Frag} {vs : List V} {H : Hp} {Q : VK} {E : XK} (h : sp__law_roll K vs H Q E) : vs.length = ["dice", "most"].length := by
  obtain ⟨_, _, rfl, _⟩ := h
  rfl
def t__law_roll (K : PySem.W.Frag) : TS := (tSeq (tIfS (tTest (tOp rGtI (tOp (rIxA K) (tVar 0) (tC (.int 0))) (tC (.int 0)))) (tSeq (tAsg (tOp rModU (tCB (rInt1) (tCons (tOp (rIxA K) (tVar 0) (tC (.int 0))) tNil)) (tVar 1)) (gName 2))
  (tSeq (tAsg (tOp rDivU (tOp (rIxA K) (tVar 0) (tC (.int 0))) (tVar 1)) (gSub (tVar 0) (tC (.int 0)) rSetL))
  (tRet (tVar 2)))) tNext)
  (tSeq (tAsg (tOp rAdd (tOp (rIxA K) (tVar 0) (tC (.int 2))) (tC (.int 1))) (gSub (tVar 0) (tC (.int 2)) rSetL))
  (tSeq (tAsg (tOp rModU (tCB (rInt1) (tCons (tOp rAdd (tOp (rIxA K) (tVar 0) (tC (.int 1))) (tOp rMulU (tC (.int 86028121)) (tOp (rIxA K) (tVar 0) (tC (.int 2))))) tNil)) (tC (.int 2305843009213693561))) (gName 3))
  (tSeq (tAsg (tOp rModU (tCB (rInt1) (tCons (tOp rAdd (tOp rMulU (tVar 3) (tVar 3)) (tOp rMulU (tC (.int 103)) (tOp (rIxA K) (tVar 0) (tC (.int 2))))) tNil)) (tC (.int 2305843009213693669))) (gName 4))
  (tRet (tOp rModU (tCB (rInt1) (tCons (tOp rDivU (tOp rAdd (tOp rMulU (tVar 4) (tC (.int 7654321))) (tVar 3)) (tC (.int 65557))) tNil)) (tVar 1)))))))
theorem pure__law_roll (K : PySem.W.Frag) (vs : List V) (H : Hp) (Q : VK) (E : XK) (h : sp__law_roll K vs H Q E) : t__law_roll K { nx := fun _ H' => Q .non H', rt := Q } (start ["dice", "most", "found", "one", "two"] vs) H := by
  obtain ⟨d, most, rfl, ⟨a, b, c, hD⟩, h0, h1, hq⟩ := h
  unfold t__law_roll
  walk_at "z"
  refine ixL (sqL_of hD) rfl ?_
  walk_at "z"
  by_cases ha : 0 < a
  · rw [if_pos ha]
    refine ixL (sqL_of hD) rfl ?_
    walk_at "z"
    refine ⟨h0, ixL (sqL_of hD) rfl ?_⟩
    walk_at "z"
    refine ⟨divM h0 h1, setL hD rfl ?_⟩
    walk_at "z"
    exact hq _ _ (Int.emod_nonneg _ (by omega)) (Int.emod_lt_of_pos _ h0) (Keep.refl d H).put ⟨_, _, _, upd_same⟩
  · rw [if_neg ha]
    refine ixL (sqL_of hD) rfl ?_
    walk_at "z"
    refine setL hD rfl ?_
    walk_at "z"
    refine ixL (sqL_of upd_same) rfl ?_
    walk_at "z"
    refine ixL (sqL_of upd_same) rfl ?_
    walk_at "z"
    have e := Int.emod_nonneg (b + 86028121 * (c + 1)) (show (2305843009213693561 : Int) ≠ 0 by decide)
    have e2 := Int.emod_lt_of_pos (b + 86028121 * (c + 1)) (show (0 : Int) < 2305843009213693561 by decide)
    refine ⟨mulS (by decide), by decide, mulS (by omega), ixL (sqL_of upd_same) rfl ?_⟩
    walk_at "z"
    refine ⟨mulS (by decide), by decide, mulR (by decide), divS (by decide) (by decide), h0, ?_⟩
    exact hq _ _ (Int.emod_nonneg _ (by omega)) (Int.emod_lt_of_pos _ h0) (Keep.refl d H).put ⟨_, _, _, upd_same⟩
theorem ok__law_roll {P : Program} {w : World} {K : PySem.W.Frag} {mg : Str → Option Value} {base : Heap} (T : Tx K mg) : Okk P w K mg base 1 "_law_roll" ["dice", "most"] (sp__law_roll K) := by
  have hf_int := T.n_int
  obtain ⟨fd, F⟩ := T.f__law_roll
  refine ⟨fd, F.ok sc__law_roll (fun vs H Q E h => len__law_roll h) (fun cdv A outer s H vs Q E hr h => ⟨t__law_roll K, PSs.nox ?_, pure__law_roll K vs H Q E h⟩), F.bindsN (fun _ _ _ _ _ _ us hl => match us, hl with | [_, _], _ => rfl), T.g__law_roll, F.kp⟩
  exact (pss_cons (ps_if (pt_cmpR op_gt (pe_ix ix_lt (pv 0) pe_int (fun _ _ => rfl)) pe_int (nomark _)) (pss_cons (ps_set (i := 2) sc__law_roll.nd rfl (by first | exact Or.inl rfl | exact Or.inr rfl) (pe_op op_mod (pe_callTy call_int1 (by rfl) hf_int (by decide +kernel) (pa_cons (pe_ix ix_lt (pv 0) pe_int (fun _ _ => rfl)) pa_nil)) (pv 1)))
      (pss_cons (ps_asg (pe_op op_fdivW (pe_ix ix_lt (pv 0) pe_int (fun _ _ => rfl)) (pv 1)) (pg_sub (pv 0) pe_int set_list))
      (pss_one (ps_ret (pv 2))))) pss_nil)
      (pss_cons (ps_asg (pe_op op_add (pe_ix ix_lt (pv 0) pe_int (fun _ _ => rfl)) pe_int) (pg_sub (pv 0) pe_int set_list))
      (pss_cons (ps_set (i := 3) sc__law_roll.nd rfl (by first | exact Or.inl rfl | exact Or.inr rfl) (pe_op op_mod (pe_callTy call_int1 (by rfl) hf_int (by decide +kernel) (pa_cons (pe_op op_add (pe_ix ix_lt (pv 0) pe_int (fun _ _ => rfl)) (pe_op op_mulU pe_int (pe_ix ix_lt (pv 0) pe_int (fun _ _ => rfl)))) pa_nil)) pe_int))
      (pss_cons (ps_set (i := 4) sc__law_roll.nd rfl (by first | exact Or.inl rfl | exact Or.inr rfl) (pe_op op_mod (pe_callTy call_int1 (by rfl) hf_int (by decide +kernel) (pa_cons (pe_op op_add (pe_op op_mulU (pv 3) (pv 3)) (pe_op op_mulU pe_int (pe_ix ix_lt (pv 0) pe_int (fun _ _ => rfl)))) pa_nil)) pe_int))
      (pss_one (ps_ret (pe_op op_mod (pe_callTy call_int1 (by rfl) hf_int (by decide +kernel) (pa_cons (pe_op op_fdivW (pe_op op_add (pe_op op_mulU (pv 4) pe_int) (pv 3)) pe_int) pa_nil)) (pv 1))))))))
/-! ### _law_pick -/
theorem sc__law_pick : FnScope ["dice", "items"] ["dice", "items"] (defScope s__law_pick) := ⟨rfl, rfl, rfl, by decide +kernel, rfl, by decide +kernel, by decide +kernel⟩
def sp__law_pick (K : PySem.W.Frag) : Sp := fun vs H Q _ => ∃ (d L : Addr) (xs : List V), vs = [.ref d, .ref L] ∧ Dice H d ∧ d ≠ L ∧ H L = some (.lst xs) ∧ xs ≠ [] ∧ xs.length < 2 ^ 40 ∧ ∀ v H', v ∈ xs → Keep d H H' → Dice H' d → Q v H'
theorem len__law_pick {K : PySem.W.Frag} {vs : List V} {H : Hp} {Q : VK} {E : XK} (h : sp__law_pick K vs H Q E) : vs.length = ["dice", "items"].length := by
  obtain ⟨_, _, _, rfl, _⟩ := h
  rfl
def t__law_pick (K : PySem.W.Frag) : TS := (tRet (tOp (rIxA K) (tVar 1) (tCall (sp__law_roll K) [] E0 (tCons (tVar 0) (tCons (tCB (rLenU K) (tCons (tVar 1) tNil)) tNil)))))
theorem pure__law_pick (K : PySem.W.Frag) (vs : List V) (H : Hp) (Q : VK) (E : XK) (h : sp__law_pick K vs H Q E) : t__law_pick K { nx := fun _ H' => Q .non H', rt := Q } (start ["dice", "items"] vs) H := by
  obtain ⟨d, L, xs, rfl, hD, hne, hL, hx, hl, hq⟩ := h
  unfold t__law_pick
  walk_at "z"
  refine lenL (sqL_of hL) ?_
  walk_at "z"
  have hp : 0 < xs.length := List.length_pos_iff.mpr hx
  refine ⟨d, _, rfl, hD, by omega, by omega, fun r H' r0 r1 k1 d1 => ?_⟩
  walk_at "z"
  have hr : r.toNat < xs.length := by omega
  have e : r = ((r.toNat : Nat) : Int) := by omega
  refine ixL (sqL_of (k1 _ _ (Ne.symm hne) hL)) (v := xs[r.toNat]) ?_ (hq _ _ (List.getElem_mem hr) k1 d1)
  have h9 := atI_nat (List.getElem?_eq_getElem hr)
  rw [← e] at h9
  exact h9
theorem ok__law_pick {P : Program} {w : World} {K : PySem.W.Frag} {mg : Str → Option Value} {base : Heap} (T : Tx K mg) : Okk P w K mg base 2 "_law_pick" ["dice", "items"] (sp__law_pick K) := by
  obtain ⟨fd__law_roll, F__law_roll, b__law_roll, g__law_roll, k__law_roll⟩ := ok__law_roll (P := P) (w := w) (base := base) T
  have hf_len := T.n_len
  obtain ⟨fd, F⟩ := T.f__law_pick
  refine ⟨fd, F.ok sc__law_pick (fun vs H Q E h => len__law_pick h) (fun cdv A outer s H vs Q E hr h => ⟨t__law_pick K, PSs.nox ?_, pure__law_pick K vs H Q E h⟩), F.bindsN (fun _ _ _ _ _ _ us hl => match us, hl with | [_, _], _ => rfl), T.g__law_pick, F.kp⟩
  exact (pss_one (ps_ret (pe_ix ix_lt (pv 1) (pe_call F__law_roll (hr.mono (by decide)) rfl g__law_roll k__law_roll b__law_roll .nil pass0 (pa_cons (pv 0) (pa_cons (pe_callB call_len_seq (by rfl) hf_len (by decide +kernel) (pa_cons (pv 1) pa_nil)) pa_nil))) (fun _ _ => rfl))))
/-! ### _law_right -/
theorem sc__law_right : FnScope ["dice", "odd", "low", "split", "word", "told", "wide", "due", "shared"] ["dice"] (defScope s__law_right) := ⟨rfl, rfl, rfl, by decide +kernel, rfl, by decide +kernel, by decide +kernel⟩
def sp__law_right (K : PySem.W.Frag) : Sp := fun vs H Q _ => ∃ D : Addr, vs = [.ref D] ∧ Dice H D ∧ LamX.Tabs (Ts K) H ∧ ∀ H', KN [D] H H' → LamX.Tabs (Ts K) H' → Q (.bl true) H'
theorem len__law_right {K : PySem.W.Frag} {vs : List V} {H : Hp} {Q : VK} {E : XK} (h : sp__law_right K vs H Q E) : vs.length = ["dice"].length := by
  obtain ⟨_, rfl, _⟩ := h
  rfl
def t__law_right_k1_b (K : PySem.W.Frag) : TS := (tSeq (tAsg (tOp rAdd (tC (.int 2)) (tCall (sp__law_roll K) [] E0 (tCons (tVar 0) (tCons (tC (.int 50)) tNil)))) (gName 8))
  (tRet (tOp (rEqD K) (LamX.tLam (Ts K) (TMet K) (fun E => (tCall (sp_order_of K) [] E (tCons (tOp rMulU (tVar 8) (tC (.int 3))) (tCons (tOp rMulU (tVar 8) (tOp rSub (tCall (sp__law_roll K) [] E0 (tCons (tVar 0) (tCons (tC (.int 9)) tNil))) (tC (.int 4)))) tNil))))) (tTup (tCons (tC (.str "refused")) (tCons (tC (.str "operation")) tNil))))))
def t__law_right_k2_b (K : PySem.W.Frag) : TS := (tSeq (tAsg (tCall (sp__law_pick K) [] E0 (tCons (tVar 0) (tCons (tLst (tCons (tC .non) (tCons (tC (.bl true)) (tCons (tC (.str "1")) (tCons (tTup (tCons (tC (.int 1)) (tCons (tC (.int 1)) tNil))) (tCons (tOp rPowU (tC (.int 10)) (tC (.int 60))) (tCons (tLst (tCons (tC (.int 1)) tNil)) tNil))))))) tNil))) (gName 6))
  (tSeq (tAsg (tLst (tCons (LamX.tLam (Ts K) (TMet K) (fun E => (tCall (sp_order_of K) [] E (tCons (tC (.int 6)) (tCons (tVar 6) tNil))))) tNil)) (gName 5))
  (tSeq (tDrop (tBM K "list" rAppend (tVar 5) (tCons (LamX.tLam (Ts K) (TMet K) (fun E => (tCall (sp_least_maker K) [] E (tCons (tVar 3) tNil)))) tNil)))
  (tSeq (tDrop (tBM K "list" rAppend (tVar 5) (tCons (LamX.tLam (Ts K) (TMet K) (fun E => (tCall (sp_prime_parts_answer K) [] E (tCons (tVar 2) tNil)))) tNil)))
  (tSeq (tDrop (tBM K "list" rAppend (tVar 5) (tCons (LamX.tLam (Ts K) (TMet K) (fun E => (tCall (sp_divisors K) [] E (tCons (tVar 2) tNil)))) tNil)))
  (tSeq (tDrop (tBM K "list" rAppend (tVar 5) (tCons (LamX.tLam (Ts K) (TMet K) (fun E => (tCall (sp_units_number K) [] E (tCons (tVar 2) tNil)))) tNil)))
  (tSeq (tDrop (tBM K "list" rAppend (tVar 5) (tCons (LamX.tLam (Ts K) (TMet K) (fun E => (tCall (sp_order_of K) [] E (tCons (tVar 2) (tCons (tC (.int 1)) tNil))))) tNil)))
  (tSeq (tAsg (tOp rCat (tLst (tCons (tTup (tCons (tC (.str "refused")) (tCons (tC (.str "number")) (tCons (tCB (rRepV K) (tCons (tVar 6) tNil)) tNil)))) (tCons (tTup (tCons (tC (.str "refused")) (tCons (tC (.str "number")) (tCons (tCB (rRepV K) (tCons (tVar 3) tNil)) tNil)))) tNil))) (tOp rRep (tLst (tCons (tTup (tCons (tC (.str "refused")) (tCons (tC (.str "number")) (tCons (tCB (rRepV K) (tCons (tVar 2) tNil)) tNil)))) tNil)) (tC (.int 4)))) (gName 7))
  (tSeq (tIfS (tTest (tOp (rNeD K) (tVar 5) (tVar 7))) (tRet (tC (.bl false))) tNext)
  (t__law_right_k1_b K))))))))))
def t__law_right_k3_b (K : PySem.W.Frag) : TS := (tSeq (tAsg (tLst (tCons (LamX.tLam (Ts K) (TMet K) (fun E => (tCall (sp_is_prime K) [] E (tCons (tVar 1) tNil)))) tNil)) (gName 5))
  (tSeq (tDrop (tBM K "list" rAppend (tVar 5) (tCons (LamX.tLam (Ts K) (TMet K) (fun E => (tCall (sp_next_prime K) [] E (tCons (tVar 1) tNil)))) tNil)))
  (tSeq (tDrop (tBM K "list" rAppend (tVar 5) (tCons (LamX.tLam (Ts K) (TMet K) (fun E => (tCall (sp_prime_answer K) [] E (tCons (tVar 1) tNil)))) tNil)))
  (tSeq (tDrop (tBM K "list" rAppend (tVar 5) (tCons (LamX.tLam (Ts K) (TMet K) (fun E => (tCall (sp_prime_parts_answer K) [] E (tCons (tVar 1) tNil)))) tNil)))
  (tSeq (tDrop (tBM K "list" rAppend (tVar 5) (tCons (LamX.tLam (Ts K) (TMet K) (fun E => (tCall (sp_divisors K) [] E (tCons (tVar 1) tNil)))) tNil)))
  (tSeq (tDrop (tBM K "list" rAppend (tVar 5) (tCons (LamX.tLam (Ts K) (TMet K) (fun E => (tCall (sp_units_number K) [] E (tCons (tVar 1) tNil)))) tNil)))
  (tSeq (tDrop (tBM K "list" rAppend (tVar 5) (tCons (LamX.tLam (Ts K) (TMet K) (fun E => (tCall (sp_order_of K) [] E (tCons (tVar 1) (tCons (tC .non) tNil))))) tNil)))
  (tSeq (tIfS (tTest (tOp (rNeD K) (tVar 5) (tOp rRep (tLst (tCons (tVar 4) tNil)) (tC (.int 7))))) (tRet (tC (.bl false))) tNext)
  (t__law_right_k2_b K)))))))))
def t__law_right (K : PySem.W.Frag) : TS := (tSeq (tAsg (tCall (sp__law_pick K) [] E0 (tCons (tVar 0) (tCons (tLst (tCons (tC .non) (tCons (tUn rNeg (tC (.int 1))) (tCons (tC (.bl true)) (tCons (tC (.str "7")) (tCons (tTup (tCons (tC (.int 7)) tNil)) (tCons (tLst (tCons (tC (.int 7)) tNil)) (tCons (tOp rAdd (tOp rPowU (tC (.int 10)) (tC (.int 8))) (tC (.int 1))) (tCons (tOp rPowU (tC (.int 10)) (tC (.int 60))) (tCons (tTup (tCons (tC (.int 1)) (tCons (tC (.int 1)) tNil))) (tCons tDNewK (tCons (tC (.bl false)) tNil)))))))))))) tNil))) (gName 1))
  (tSeq (tAsg (tCall (sp__law_pick K) [] E0 (tCons (tVar 0) (tCons (tLst (tCons (tC (.int 0)) (tCons (tUn rNeg (tC (.int 1))) (tCons (tC (.bl false)) tNil)))) tNil))) (gName 2))
  (tSeq (tAsg (tCall (sp__law_pick K) [] E0 (tCons (tVar 0) (tCons (tLst (tCons (tC (.int 0)) (tCons (tC (.int 1)) (tCons (tC (.int 4)) (tCons (tC (.int 9)) (tCons (tC (.int 91)) (tCons (tOp rPowU (tC (.int 10)) (tC (.int 8))) (tCons (tUn rNeg (tC (.int 7))) (tCons (tC (.bl true)) (tCons (tC .non) (tCons (tC (.str "5")) (tCons (tOp rPowU (tC (.int 10)) (tC (.int 60))) tNil)))))))))))) tNil))) (gName 3))
  (tSeq (tAsg (tTup (tCons (tC (.str "refused")) (tCons (tC (.str "number")) (tCons (tCB (rRepV K) (tCons (tVar 1) tNil)) tNil)))) (gName 4))
  (t__law_right_k3_b K)))))
theorem pure__law_right (K : PySem.W.Frag) (vs : List V) (H : Hp) (Q : VK) (E : XK) (h : sp__law_right K vs H Q E) : t__law_right K { nx := fun _ H' => Q .non H', rt := Q } (start ["dice", "odd", "low", "split", "word", "told", "wide", "due", "shared"] vs) H := by
  obtain ⟨D, rfl, hD, hT, hq⟩ := h
  have part1 : ∀ (H1 : Hp) (odd low split word told wide due : V), Cxt K D H [] [] H1 → t__law_right_k1_b K { nx := fun x H' => Q V.non H', rt := Q } [some (V.ref D), some odd, some low, some split, some word, some told, some wide, some due, none] H1 := by
    intro H1 odd low split word told wide due c
    unfold t__law_right_k1_b
    walk_at "z"
    refine ⟨D, 50, rfl, c.dice, by decide, by decide, fun r H2 r0 r1 k2 d2 => ?_⟩
    have c2 := c.keep k2 d2
    walk_at "z"
    refine ⟨c2.tb, fun H3 e3 t3 => ?_⟩
    have c3 := c2.ext e3 t3
    refine met_op (G := fun H4 => Cxt K D H [] [] H4) (fun E2 Q2 hE => ?_) fun q H4 H5 c4 s5 hq5 => ?_
    · walk_at "z"
      refine ⟨mulR (by decide), D, 9, rfl, c3.dice, by decide, by decide, fun r2 H4 p0 p1 k4 d4 => ?_⟩
      have c4 := c3.keep k4 d4
      walk_at "z"
      refine ⟨mulS (by omega), _, _, rfl, trivial, trivial, fun ho => ?_, fun m em m1 m2 => ⟨fun ho => ?_, fun n en n1 n2 => ⟨fun _ => hE _ c4, fun hg => ?_⟩⟩⟩
      · rcases ho _ rfl with z | z <;> omega
      · have b1 : -(4 * 52) ≤ (2 + r) * (r2 - 4) ∧ (2 + r) * (r2 - 4) ≤ 4 * 52 := by
          constructor
          · have := Int.mul_le_mul_of_nonneg_left (show -4 ≤ r2 - 4 by omega) (show 0 ≤ 2 + r by omega)
            omega
          · have := Int.mul_le_mul_of_nonneg_left (show r2 - 4 ≤ 4 by omega) (show 0 ≤ 2 + r by omega)
            omega
        rcases ho _ rfl with z | z <;> omega
      · exfalso
        have em : (2 + r) * 3 = (m : Int) := by injection em
        have en : (2 + r) * (r2 - 4) = n := by injection en
        have g1 : ((2 + r).toNat : Int) = 2 + r := by omega
        have d1 : (2 + r).toNat ∣ m := Int.natCast_dvd_natCast.mp (by rw [g1, ← em]; exact Int.dvd_mul_right _ _)
        have d2 : (2 + r).toNat ∣ n.natAbs := by
          have h9 := Int.natAbs_dvd_natAbs.mpr (show ((2 + r).toNat : Int) ∣ n by rw [g1, ← en]; exact Int.dvd_mul_right _ _)
          rw [Int.natAbs_natCast] at h9
          exact h9
        have d3 := Nat.dvd_gcd d1 d2
        rw [hg] at d3
        have := Nat.le_of_dvd (by decide) d3
        omega
    · refine ⟨by decide, fun p hp => ?_⟩
      refine ⟨.tuple [.str "refused", .str "operation"], .tuple [.str "refused", .str "operation"], .tup (sqT_of (same_upd hp _ _ hq5)) (.cons (.str _) (.cons (.str _) .nil)), .tup (sqT_of upd_same) (.cons (.str _) (.cons (.str _) .nil)), by decide +kernel, by decide +kernel, ?_⟩
      rw [show PyData.eqv (.tuple [.str "refused", .str "operation"]) (.tuple [.str "refused", .str "operation"]) = true by decide +kernel]
      have c6 := (c4.same s5).same (same_upd (o := .tup [V.str "refused", V.str "operation"]) hp)
      exact hq _ c6.kn c6.tb
  have part2 : ∀ (H1 : Hp) (odd low split : V) (d1 d2 d3 : PyData) (word told : V), Cxt K D H [] [(odd, d1), (low, d2), (split, d3)] H1 → OutI low 1 (10 ^ 8) → (∀ n, split = .int n → n ≤ 10 ^ 8 → ¬ PrimeI n) →
      t__law_right_k2_b K { nx := fun x H' => Q V.non H', rt := Q } [some (V.ref D), some odd, some low, some split, some word, some told, none, none, none] H1 := by
    intro H1 odd low split d1 d2 d3 word told c o2 o3
    unfold t__law_right_k2_b
    walk_at "z"
    refine ⟨by decide, fun p hp => ⟨cpow (by decide), by decide, fun p1 hp1 => ⟨by decide, fun p2 hp2 => ?_⟩⟩⟩
    have ca := c.same (same_upd (o := .tup [V.int 1, V.int 1]) hp)
    have cb := ca.same (same_upd (o := .lst [V.int 1]) hp1)
    have cc := cb.same (same_upd (o := .lst [V.non, V.bl true, V.str "1", V.ref p, V.int (10 ^ Int.toNat 60), V.ref p1]) hp2)
    refine ⟨D, p2, _, rfl, cc.dice, cb.dice.ne hp2, upd_same, by simp, by simp, fun w H2 hw k2 e2 => ?_⟩
    have c2 := cc.keep k2 e2
    have kn2 : KN [D] (upd (upd H1 p (.tup [V.int 1, V.int 1])) p1 (.lst [V.int 1])) H2 := (KN.new hp2).trans (k2.kn)
    obtain ⟨dw, ow, oo⟩ : ∃ dw, Odd H2 [D] w dw ∧ OutI w (1 - 10 ^ 60) (10 ^ 60 - 1) := by
      simp only [List.mem_cons, List.not_mem_nil, or_false] at hw
      rcases hw with rfl | rfl | rfl | rfl | rfl | rfl
      · exact ⟨.none, ⟨by rw [Pl], by decide +kernel⟩, fun n e => by cases e⟩
      · exact ⟨.bool true, ⟨by rw [Pl], by decide +kernel⟩, fun n e => by cases e⟩
      · exact ⟨.str "1", ⟨by rw [Pl], by decide +kernel⟩, fun n e => by cases e⟩
      · refine ⟨.tuple [.int 1, .int 1], ⟨Pl.mono ((KN.new hp1).trans kn2) _ _ ?_, by decide +kernel⟩, fun n e => by cases e⟩
        exact pl_tup2 upd_same (c.dice.ne hp)
      · exact ⟨.int (10 ^ Int.toNat 60), ⟨by rw [Pl], by decide +kernel⟩, fun n e => by injection e with e; subst e; exact .inr (by decide)⟩
      · refine ⟨.list [.int 1], ⟨Pl.mono kn2 _ _ ?_, by decide +kernel⟩, fun n e => by cases e⟩
        exact pl_lst1 upd_same (ca.dice.ne hp1)
    have c3 : Cxt K D H [] [(w, dw), (odd, d1), (low, d2), (split, d3)] H2 := ⟨c2.kn, c2.tb, c2.dice, c2.dn, fun q hq => by
      rcases List.mem_cons.mp hq with rfl | hq
      · exact ow
      · exact c2.odd q hq⟩
    have mW : (w, dw) ∈ [(w, dw), (odd, d1), (low, d2), (split, d3)] := by simp
    have mL : (low, d2) ∈ [(w, dw), (odd, d1), (low, d2), (split, d3)] := by simp
    have mS : (split, d3) ∈ [(w, dw), (odd, d1), (low, d2), (split, d3)] := by simp
    refine first_num c3.restart mW (fun H3 E Q' p _ hR => ?_) fun L q H3 hn s => ?_
    · refine ⟨_, w, rfl, trivial, p.kn, fun ho => ?_, fun m em m1 m2 => ⟨fun _ => hR, fun n en n1 n2 => ?_⟩⟩
      · rcases ho 6 rfl with z | z <;> omega
      · have := oo n en
        omega
    refine app_num s (by simp) mS (fun H3 E Q' p _ hR => ⟨split, rfl, p.kn, o3, hR⟩) fun H4 s => ?_
    refine app_num s (by simp) mL (fun H3 E Q' p _ hR => ⟨low, rfl, p.kn, o2, hR⟩) fun H4 s => ?_
    refine app_num s (by simp) mL (fun H3 E Q' p _ hR => ⟨low, rfl, p.kn, o2, hR⟩) fun H4 s => ?_
    refine app_num s (by simp) mL (fun H3 E Q' p _ hR => ⟨low, rfl, p.kn, o2, hR⟩) fun H4 s => ?_
    refine app_num s (by simp) mL (fun H3 E Q' p _ hR => ?_) fun H4 s => ?_
    · walk_at "z"
      exact ⟨low, _, rfl, p.kn, trivial, fun _ => hR, fun m e h1 h2 => by have := o2 m e; omega⟩
    refine ⟨w, _, rfl, (s.c.odd _ mW).1.rep (s.c.odd _ mW).2, by decide, fun q1 h1 => ?_⟩
    have e1 := same_upd (o := .tup [V.str "refused", V.str "number", V.str dw.shown]) h1
    have c1 := s.c.same e1
    refine ⟨split, _, rfl, (c1.odd _ mS).1.rep (c1.odd _ mS).2, by decide, fun q2 h2 => ⟨by decide, fun M1 hM1 => ?_⟩⟩
    have e2 := same_upd (o := .tup [V.str "refused", V.str "number", V.str d3.shown]) h2
    have e3 := same_upd (o := .lst [V.ref q1, V.ref q2]) hM1
    have c3' := (c1.same e2).same e3
    refine ⟨low, _, rfl, (c3'.odd _ mL).1.rep (c3'.odd _ mL).2, by decide, fun q3 h3 => ⟨by decide, fun M2 hM2 => ?_⟩⟩
    have e4 := same_upd (o := .tup [V.str "refused", V.str "number", V.str d2.shown]) h3
    have e5 := same_upd (o := .lst [V.ref q3]) hM2
    refine ⟨M2, 4, [V.ref q3], rfl, rfl, upd_same, by decide, by decide, (show 1 * 4 ≤ sizeLine by decide), fun M3 hM3 => ?_⟩
    have e6 := same_upd (o := .lst (List.replicate (4 : Int).toNat [V.ref q3]).flatten) hM3
    refine ⟨M1, M3, [V.ref q1, V.ref q2], _, rfl, rfl, e6 _ _ (e5 _ _ (e4 _ _ upd_same)), upd_same, (show 2 + 4 ≤ sizeLine by decide), fun M4 hM4 => ?_⟩
    have e7 := same_upd (o := .lst ([V.ref q1, V.ref q2] ++ (List.replicate (4 : Int).toNat [V.ref q3]).flatten)) hM4
    have eA := (((((e1.trans e2).trans e3).trans e4).trans e5).trans e6).trans e7
    refine ne_told (ws := [numW dw, numW d3, numW d2, numW d2, numW d2, numW d2]) (s.t.same eA) ⟨_, upd_same, ?_⟩ ⟨false, rfl, ?_⟩
    · have w1 := numW_ok (s.c.odd _ mW).2
      have w2 := numW_ok (s.c.odd _ mS).2
      have w3 := numW_ok (s.c.odd _ mL).2
      have g3 := e7 _ _ (e6 _ _ (e5 _ _ (upd_same (H := upd (upd (upd H4 q1 (.tup [V.str "refused", V.str "number", V.str dw.shown])) q2 (.tup [V.str "refused", V.str "number", V.str d3.shown])) M1 (.lst [V.ref q1, V.ref q2])) (a := q3) (o := .tup [V.str "refused", V.str "number", V.str d2.shown]))))
      refine .cons ⟨q1, rfl, e7 _ _ (e6 _ _ (e5 _ _ (e4 _ _ (e3 _ _ (e2 _ _ upd_same))))), w1⟩ (.cons ⟨q2, rfl, e7 _ _ (e6 _ _ (e5 _ _ (e4 _ _ (e3 _ _ upd_same)))), w2⟩ ?_)
      exact .cons ⟨q3, rfl, g3, w3⟩ (.cons ⟨q3, rfl, g3, w3⟩ (.cons ⟨q3, rfl, g3, w3⟩ (.cons ⟨q3, rfl, g3, w3⟩ .nil)))
    rw [if_neg (by simp)]
    have cz := ((s.c.drop hn).same eA).back c3.kn
    exact part1 _ _ _ _ _ _ _ _ ⟨cz.kn, cz.tb, cz.dice, cz.dn, fun q hq => by cases hq⟩
  have part3 : ∀ (H1 : Hp) (odd low split : V) (W : Addr) (d1 d2 d3 : PyData), Cxt K D H [] [(odd, d1), (low, d2), (split, d3)] H1 → H1 W = some (.tup ((numW d1).map V.str)) → OutI odd 0 (10 ^ 8) → OutI low 1 (10 ^ 8) → (∀ n, split = .int n → n ≤ 10 ^ 8 → ¬ PrimeI n) →
      t__law_right_k3_b K { nx := fun x H' => Q V.non H', rt := Q } [some (V.ref D), some odd, some low, some split, some (.ref W), none, none, none, none] H1 := by
    intro H1 odd low split W d1 d2 d3 c hW o1 o2 o3
    have o1b : OutI odd 1 (10 ^ 8) := fun n e => by have := o1 n e; omega
    have o1c : OutI odd 2 (10 ^ 8) := fun n e => by have := o1 n e; omega
    unfold t__law_right_k3_b
    walk_at "z"
    refine first_num c.restart (d := d1) List.mem_cons_self (fun H2 E Q' p _ hR => ⟨odd, rfl, p.kn, fun _ => hR, fun n e h1 h2 => by have := o1 n e; omega⟩) fun L q H2 hn s => ?_
    refine app_num s (by simp) (d := d1) List.mem_cons_self (fun H2 E Q' p _ hR => ⟨odd, rfl, p.kn, fun _ => hR, fun n e h1 h2 => by have := o1 n e; omega⟩) fun H3 s => ?_
    refine app_num s (by simp) (d := d1) List.mem_cons_self (fun H2 E Q' p _ hR => ⟨odd, rfl, p.kn, fun _ => hR, fun n e h1 h2 => by have := o1 n e; omega⟩) fun H3 s => ?_
    refine app_num s (by simp) (d := d1) List.mem_cons_self (fun H2 E Q' p _ hR => ⟨odd, rfl, p.kn, o1b, hR⟩) fun H3 s => ?_
    refine app_num s (by simp) (d := d1) List.mem_cons_self (fun H2 E Q' p _ hR => ⟨odd, rfl, p.kn, o1b, hR⟩) fun H3 s => ?_
    refine app_num s (by simp) (d := d1) List.mem_cons_self (fun H2 E Q' p _ hR => ⟨odd, rfl, p.kn, o1b, hR⟩) fun H3 s => ?_
    refine app_num s (by simp) (d := d1) List.mem_cons_self (fun H2 E Q' p _ hR => ?_) fun H3 s => ?_
    · walk_at "z"
      exact ⟨odd, .non, rfl, p.kn, trivial, fun _ => hR, fun m e h1 h2 => by have := o1 m e; omega⟩
    have hW3 : H3 W = some (.tup ((numW d1).map V.str)) := by
      have wd : W ∉ [D] := fun z => by
        have e : W = D := by simpa using z
        obtain ⟨x, y, z, hd⟩ := c.dice
        rw [e, hd] at hW
        cases hW
      refine s.c.kn W _ (fun z => ?_) hW (fun ps z => by cases z)
      rcases List.mem_cons.mp z with y | y
      · exact wd (y ▸ List.mem_cons_self)
      · exact hn.ne hW wd (by simpa using y)
    refine ⟨by decide, fun M hM => ?_⟩
    refine ⟨M, 7, [V.ref W], rfl, rfl, upd_same, by decide, by decide, (show 1 * 7 ≤ sizeLine by decide), fun M2 hM2 => ?_⟩
    have sM : Same H3 (upd (upd H3 M (.lst [V.ref W])) M2 (.lst (List.replicate 7 [V.ref W]).flatten)) := same_new (same_upd hM) hM2
    have hW4 := sM _ _ hW3
    refine ne_told (ws := [numW d1, numW d1, numW d1, numW d1, numW d1, numW d1, numW d1]) (s.t.same sM) ⟨_, upd_same, ?_⟩ ⟨false, rfl, ?_⟩
    · have one : ∃ p, V.ref W = V.ref p ∧ upd (upd H3 M (.lst [V.ref W])) M2 (.lst (List.replicate 7 [V.ref W]).flatten) p = some (.tup ((numW d1).map V.str)) ∧ (numW d1).all PyData.strOk = true := ⟨W, rfl, hW4, numW_ok (c.odd (odd, d1) List.mem_cons_self).2⟩
      exact .cons one (.cons one (.cons one (.cons one (.cons one (.cons one (.cons one .nil))))))
    rw [if_neg (by simp)]
    exact part2 _ odd low split d1 d2 d3 (V.ref W) (V.ref L) (((s.c.drop hn).same sM).back c.kn) o2 o3
  have c0 : Cxt K D H [] [] H := ⟨KN.refl _ _, hT, hD, by simp, fun q hq => by cases hq⟩
  unfold t__law_right
  walk_at "z"
  refine ⟨by decide, fun p hp => ⟨by decide, fun p1 hp1 => ⟨cpow (by decide), cpow (by decide), by decide, fun p2 hp2 p3 hp3 => ⟨by decide, fun p4 hp4 => ?_⟩⟩⟩⟩
  have ca := c0.same (same_upd (o := .tup [V.int 7]) hp)
  have cb := ca.same (same_upd (o := .lst [V.int 7]) hp1)
  have cc := cb.same (same_upd (o := .tup [V.int 1, V.int 1]) hp2)
  have cd := cc.same (same_upd (o := .dK []) hp3)
  have ce := cd.same (same_upd (o := .lst [V.non, V.int (-1), V.bl true, V.str "7", V.ref p, V.ref p1, V.int (10 ^ Int.toNat 8 + 1), V.int (10 ^ Int.toNat 60), V.ref p2, V.ref p3, V.bl false]) hp4)
  refine ⟨D, p4, _, rfl, ce.dice, cd.dice.ne hp4, upd_same, by simp, by simp, fun odd H2 ho k2 e2 => ?_⟩
  have c2 := ce.keep k2 e2
  have k4 := (KN.new (no := [D]) (o := .lst [V.non, V.int (-1), V.bl true, V.str "7", V.ref p, V.ref p1, V.int (10 ^ Int.toNat 8 + 1), V.int (10 ^ Int.toNat 60), V.ref p2, V.ref p3, V.bl false]) hp4).trans k2.kn
  have k3 := (KN.new (no := [D]) (o := .dK []) hp3).trans k4
  have kk2 := (KN.new (no := [D]) (o := .tup [V.int 1, V.int 1]) hp2).trans k3
  have k1 := (KN.new (no := [D]) (o := .lst [V.int 7]) hp1).trans kk2
  obtain ⟨d1, w1, o1⟩ : ∃ d, Odd H2 [D] odd d ∧ OutI odd 0 (10 ^ 8) := by
    simp only [List.mem_cons, List.not_mem_nil, or_false] at ho
    rcases ho with rfl | rfl | rfl | rfl | rfl | rfl | rfl | rfl | rfl | rfl | rfl
    · exact ⟨.none, ⟨by rw [Pl], by decide +kernel⟩, fun n e => by cases e⟩
    · exact ⟨.int (-1), ⟨by rw [Pl], by decide +kernel⟩, fun n e => by injection e with e; subst e; exact .inl (by decide)⟩
    · exact ⟨.bool true, ⟨by rw [Pl], by decide +kernel⟩, fun n e => by cases e⟩
    · exact ⟨.str "7", ⟨by rw [Pl], by decide +kernel⟩, fun n e => by cases e⟩
    · exact ⟨.tuple [.int 7], ⟨Pl.mono k1 _ _ (pl_tup1 upd_same (hD.ne hp)), by decide +kernel⟩, fun n e => by cases e⟩
    · exact ⟨.list [.int 7], ⟨Pl.mono kk2 _ _ (pl_lst1 upd_same (ca.dice.ne hp1)), by decide +kernel⟩, fun n e => by cases e⟩
    · exact ⟨.int (10 ^ Int.toNat 8 + 1), ⟨by rw [Pl], by decide +kernel⟩, fun n e => by injection e with e; subst e; exact .inr (by decide)⟩
    · exact ⟨.int (10 ^ Int.toNat 60), ⟨by rw [Pl], by decide +kernel⟩, fun n e => by injection e with e; subst e; exact .inr (by decide)⟩
    · exact ⟨.tuple [.int 1, .int 1], ⟨Pl.mono k3 _ _ (pl_tup2 upd_same (cb.dice.ne hp2)), by decide +kernel⟩, fun n e => by cases e⟩
    · exact ⟨.dict [], ⟨Pl.mono k4 _ _ (pl_dic0 upd_same (cc.dice.ne hp3)), by decide +kernel⟩, fun n e => by cases e⟩
    · exact ⟨.bool false, ⟨by rw [Pl], by decide +kernel⟩, fun n e => by cases e⟩
  have c3 : Cxt K D H [] [(odd, d1)] H2 := ⟨c2.kn, c2.tb, c2.dice, c2.dn, fun q hq => by
    rcases List.mem_cons.mp hq with rfl | hq
    · exact w1
    · cases hq⟩
  walk_at "z"
  refine ⟨by decide, fun p5 hp5 => ?_⟩
  have c4 := c3.same (same_upd (o := .lst [V.int 0, V.int (-1), V.bl false]) hp5)
  refine ⟨D, p5, _, rfl, c4.dice, c3.dice.ne hp5, upd_same, by simp, by simp, fun low H3 hl k5 e5 => ?_⟩
  have c5 := c4.keep k5 e5
  obtain ⟨d2, w2, o2⟩ : ∃ d, Odd H3 [D] low d ∧ OutI low 1 (10 ^ 8) := by
    simp only [List.mem_cons, List.not_mem_nil, or_false] at hl
    rcases hl with rfl | rfl | rfl
    · exact ⟨.int 0, ⟨by rw [Pl], by decide +kernel⟩, fun n e => by injection e with e; subst e; exact .inl (by decide)⟩
    · exact ⟨.int (-1), ⟨by rw [Pl], by decide +kernel⟩, fun n e => by injection e with e; subst e; exact .inl (by decide)⟩
    · exact ⟨.bool false, ⟨by rw [Pl], by decide +kernel⟩, fun n e => by cases e⟩
  have c6 : Cxt K D H [] [(odd, d1), (low, d2)] H3 := ⟨c5.kn, c5.tb, c5.dice, c5.dn, fun q hq => by
    rcases List.mem_cons.mp hq with rfl | hq
    · exact c5.odd _ (by simp)
    · rcases List.mem_cons.mp hq with rfl | hq
      · exact w2
      · cases hq⟩
  walk_at "z"
  refine ⟨cpow (by decide), cpow (by decide), by decide, fun p6 hp6 => ?_⟩
  have c7 := c6.same (same_upd (o := .lst [V.int 0, V.int 1, V.int 4, V.int 9, V.int 91, V.int (10 ^ Int.toNat 8), V.int (-7), V.bl true, V.non, V.str "5", V.int (10 ^ Int.toNat 60)]) hp6)
  refine ⟨D, p6, _, rfl, c7.dice, c6.dice.ne hp6, upd_same, by simp, by simp, fun split H4 hs k6 e6 => ?_⟩
  have c8 := c7.keep k6 e6
  obtain ⟨d3, w3, o3⟩ : ∃ d, Odd H4 [D] split d ∧ (∀ n, split = .int n → n ≤ 10 ^ 8 → ¬ PrimeI n) := by
    simp only [List.mem_cons, List.not_mem_nil, or_false] at hs
    rcases hs with rfl | rfl | rfl | rfl | rfl | rfl | rfl | rfl | rfl | rfl | rfl
    · exact ⟨.int 0, ⟨by rw [Pl], by decide +kernel⟩, fun n e _ h => by injection e with e; subst e; exact absurd h.1 (by decide)⟩
    · exact ⟨.int 1, ⟨by rw [Pl], by decide +kernel⟩, fun n e _ h => by injection e with e; subst e; exact absurd h.1 (by decide)⟩
    · exact ⟨.int 4, ⟨by rw [Pl], by decide +kernel⟩, fun n e _ h => by injection e with e; subst e; exact h.2 2 (by decide) (by decide) (by decide)⟩
    · exact ⟨.int 9, ⟨by rw [Pl], by decide +kernel⟩, fun n e _ h => by injection e with e; subst e; exact h.2 3 (by decide) (by decide) (by decide)⟩
    · exact ⟨.int 91, ⟨by rw [Pl], by decide +kernel⟩, fun n e _ h => by injection e with e; subst e; exact h.2 7 (by decide) (by decide) (by decide)⟩
    · exact ⟨.int (10 ^ Int.toNat 8), ⟨by rw [Pl], by decide +kernel⟩, fun n e _ h => by injection e with e; subst e; exact h.2 2 (by decide) (by decide) (by decide)⟩
    · exact ⟨.int (-7), ⟨by rw [Pl], by decide +kernel⟩, fun n e _ h => by injection e with e; subst e; exact absurd h.1 (by decide)⟩
    · exact ⟨.bool true, ⟨by rw [Pl], by decide +kernel⟩, fun n e => by cases e⟩
    · exact ⟨.none, ⟨by rw [Pl], by decide +kernel⟩, fun n e => by cases e⟩
    · exact ⟨.str "5", ⟨by rw [Pl], by decide +kernel⟩, fun n e => by cases e⟩
    · exact ⟨.int (10 ^ Int.toNat 60), ⟨by rw [Pl], by decide +kernel⟩, fun n e h2 _ => by injection e with e; subst e; exact absurd h2 (by decide)⟩
  have c9 : Cxt K D H [] [(odd, d1), (low, d2), (split, d3)] H4 := ⟨c8.kn, c8.tb, c8.dice, c8.dn, fun q hq => by
    rcases List.mem_cons.mp hq with rfl | hq
    · exact c8.odd _ (by simp)
    · rcases List.mem_cons.mp hq with rfl | hq
      · exact c8.odd _ (by simp)
      · rcases List.mem_cons.mp hq with rfl | hq
        · exact w3
        · cases hq⟩
  walk_at "z"
  refine ⟨odd, _, rfl, (c9.odd (odd, d1) (by simp)).1.rep w1.2, by decide, fun W hW => ?_⟩
  exact part3 _ odd low split W d1 d2 d3 (c9.same (same_upd hW)) upd_same o1 o2 o3
theorem ok__law_right {P : Program} {w : World} {K : PySem.W.Frag} {mg : Str → Option Value} {base : Heap} (T : Tx K mg) (TB : ∀ p ∈ tfs, LamX.TabB base mg (He.cT K p).1 (He.cT K p).2) : OkkG P w K mg base 7 "_law_right" ["dice"] (sp__law_right K) := by
  obtain ⟨fd_is_prime, F_is_prime, b_is_prime, g_is_prime, k_is_prime⟩ := ok_is_prime (P := P) (w := w) (base := base) T
  obtain ⟨fd_next_prime, F_next_prime, b_next_prime, g_next_prime, k_next_prime⟩ := ok_next_prime (P := P) (w := w) (base := base) T
  obtain ⟨fd_prime_answer, F_prime_answer, b_prime_answer, g_prime_answer, k_prime_answer⟩ := ok_prime_answer (P := P) (w := w) (base := base) T
  obtain ⟨fd_prime_parts_answer, F_prime_parts_answer, b_prime_parts_answer, g_prime_parts_answer, k_prime_parts_answer⟩ := ok_prime_parts_answer (P := P) (w := w) (base := base) T
  obtain ⟨fd_divisors, F_divisors, b_divisors, g_divisors, k_divisors⟩ := ok_divisors (P := P) (w := w) (base := base) T
  obtain ⟨fd_units_number, F_units_number, b_units_number, g_units_number, k_units_number⟩ := ok_units_number (P := P) (w := w) (base := base) T
  obtain ⟨fd_order_of, F_order_of, b_order_of, g_order_of, k_order_of⟩ := ok_order_of (P := P) (w := w) (base := base) T
  obtain ⟨fd_least_maker, F_least_maker, b_least_maker, g_least_maker, k_least_maker⟩ := ok_least_maker (P := P) (w := w) (base := base) T
  obtain ⟨fd__law_roll, F__law_roll, b__law_roll, g__law_roll, k__law_roll⟩ := ok__law_roll (P := P) (w := w) (base := base) T
  obtain ⟨fd__law_pick, F__law_pick, b__law_pick, g__law_pick, k__law_pick⟩ := ok__law_pick (P := P) (w := w) (base := base) T
  have hf_repr := T.n_repr
  have dis := T.dis
  obtain ⟨fd__law_met, F__law_met⟩ := T.f__law_met
  have gg__law_met := T.g__law_met
  have hb__law_met := F__law_met.bindsN (ps := ["call"]) (fun _ _ _ _ _ _ us hl => match us, hl with | [_], _ => rfl)
  obtain ⟨fd, F⟩ := T.f__law_right
  refine ⟨fd, okG F sc__law_right (fun vs H Q E h => len__law_right h) (fun c A outer s H vs Q E hc hgd hr h => ⟨t__law_right K, PSs.nox ?_, pure__law_right K vs H Q E h⟩), F.bindsN (fun _ _ _ _ _ _ us hl => match us, hl with | [_], _ => rfl), T.g__law_right, F.kp⟩
  have tb := TB ("_law_right", none) (by simp [tfs])
  have ec : (He.cT K ("_law_right", none)).1 = c := codeOf_fd F hc
  rw [ec] at tb
  have hu80 := hu80_of hr
  have hu64 := hu64_of hr
  exact (pss_cons (ps_set (i := 1) sc__law_right.nd rfl (by first | exact Or.inl rfl | exact Or.inr rfl) (pe_call F__law_pick (hr.mono (by decide)) rfl g__law_pick k__law_pick b__law_pick .nil pass0 (pa_cons (pv 0) (pa_cons (pe_lst (pa_cons pe_non (pa_cons (pe_un un_neg pe_int) (pa_cons pe_bl (pa_cons pe_str (pa_cons (pe_tup (pa_cons pe_int pa_nil)) (pa_cons (pe_lst (pa_cons pe_int pa_nil)) (pa_cons (pe_op op_add (pe_op op_pow pe_int pe_int) pe_int) (pa_cons (pe_op op_pow pe_int pe_int) (pa_cons (pe_tup (pa_cons pe_int (pa_cons pe_int pa_nil))) (pa_cons pe_dnewK (pa_cons pe_bl pa_nil)))))))))))) pa_nil))))
      (pss_cons (ps_set (i := 2) sc__law_right.nd rfl (by first | exact Or.inl rfl | exact Or.inr rfl) (pe_call F__law_pick (hr.mono (by decide)) rfl g__law_pick k__law_pick b__law_pick .nil pass0 (pa_cons (pv 0) (pa_cons (pe_lst (pa_cons pe_int (pa_cons (pe_un un_neg pe_int) (pa_cons pe_bl pa_nil)))) pa_nil))))
      (pss_cons (ps_set (i := 3) sc__law_right.nd rfl (by first | exact Or.inl rfl | exact Or.inr rfl) (pe_call F__law_pick (hr.mono (by decide)) rfl g__law_pick k__law_pick b__law_pick .nil pass0 (pa_cons (pv 0) (pa_cons (pe_lst (pa_cons pe_int (pa_cons pe_int (pa_cons pe_int (pa_cons pe_int (pa_cons pe_int (pa_cons (pe_op op_pow pe_int pe_int) (pa_cons (pe_un un_neg pe_int) (pa_cons pe_bl (pa_cons pe_non (pa_cons pe_str (pa_cons (pe_op op_pow pe_int pe_int) pa_nil)))))))))))) pa_nil))))
      (pss_cons (ps_set (i := 4) sc__law_right.nd rfl (by first | exact Or.inl rfl | exact Or.inr rfl) (pe_tup (pa_cons pe_str (pa_cons pe_str (pa_cons (pe_callB (call_repV2 (K := K) rfl hgd hu80) (by rfl) hf_repr (by decide +kernel) (pa_cons (pv 1) pa_nil)) pa_nil)))))
      (pss_cons (ps_set (i := 5) sc__law_right.nd rfl (by first | exact Or.inl rfl | exact Or.inr rfl) (pe_lst (pa_cons (pe_met (k := 4) F__law_met gg__law_met hb__law_met sc__law_met rfl (.inl rfl) (hr.mono (by decide)) (fun cdv hr2 => met_gives T hgd hr2) rfl tb rfl (.head _) (hu__law_right dis) (LamX.lamS_by (sc := defScope s__law_right) (by decide +kernel)) rfl (fun _ _ _ _ _ => rfl) (fun _ _ _ _ E _ _ hr => (pe_call F_is_prime (hr.mono (by decide)) rfl g_is_prime k_is_prime b_is_prime .nil (passes_call (takes_of rfl rfl rfl rfl) (fun _ _ _ _ h => h)) (pa_cons (pv 1) pa_nil)))) pa_nil)))
      (pss_cons (ps_expr (pe_bm PySem.F.plainAttrs_list PySem.F.slot_list_append PySem.F.type_list_append mt_append (pv 5) (pa_cons (pe_met (k := 4) F__law_met gg__law_met hb__law_met sc__law_met rfl (.inl rfl) (hr.mono (by decide)) (fun cdv hr2 => met_gives T hgd hr2) rfl tb rfl (.head _) (hu__law_right dis) (LamX.lamS_by (sc := defScope s__law_right) (by decide +kernel)) rfl (fun _ _ _ _ _ => rfl) (fun _ _ _ _ E _ _ hr => (pe_call F_next_prime (hr.mono (by decide)) rfl g_next_prime k_next_prime b_next_prime .nil (passes_call (takes_of rfl rfl rfl rfl) (fun _ _ _ _ h => h)) (pa_cons (pv 1) pa_nil)))) pa_nil)))
      (pss_cons (ps_expr (pe_bm PySem.F.plainAttrs_list PySem.F.slot_list_append PySem.F.type_list_append mt_append (pv 5) (pa_cons (pe_met (k := 4) F__law_met gg__law_met hb__law_met sc__law_met rfl (.inl rfl) (hr.mono (by decide)) (fun cdv hr2 => met_gives T hgd hr2) rfl tb rfl (.head _) (hu__law_right dis) (LamX.lamS_by (sc := defScope s__law_right) (by decide +kernel)) rfl (fun _ _ _ _ _ => rfl) (fun _ _ _ _ E _ _ hr => (pe_call F_prime_answer (hr.mono (by decide)) rfl g_prime_answer k_prime_answer b_prime_answer .nil (passes_call (takes_of rfl rfl rfl rfl) (fun _ _ _ _ h => h)) (pa_cons (pv 1) pa_nil)))) pa_nil)))
      (pss_cons (ps_expr (pe_bm PySem.F.plainAttrs_list PySem.F.slot_list_append PySem.F.type_list_append mt_append (pv 5) (pa_cons (pe_met (k := 4) F__law_met gg__law_met hb__law_met sc__law_met rfl (.inl rfl) (hr.mono (by decide)) (fun cdv hr2 => met_gives T hgd hr2) rfl tb rfl (.head _) (hu__law_right dis) (LamX.lamS_by (sc := defScope s__law_right) (by decide +kernel)) rfl (fun _ _ _ _ _ => rfl) (fun _ _ _ _ E _ _ hr => (pe_call F_prime_parts_answer (hr.mono (by decide)) rfl g_prime_parts_answer k_prime_parts_answer b_prime_parts_answer .nil (passes_call (takes_of rfl rfl rfl rfl) (fun _ _ _ _ h => h)) (pa_cons (pv 1) pa_nil)))) pa_nil)))
      (pss_cons (ps_expr (pe_bm PySem.F.plainAttrs_list PySem.F.slot_list_append PySem.F.type_list_append mt_append (pv 5) (pa_cons (pe_met (k := 4) F__law_met gg__law_met hb__law_met sc__law_met rfl (.inl rfl) (hr.mono (by decide)) (fun cdv hr2 => met_gives T hgd hr2) rfl tb rfl (.head _) (hu__law_right dis) (LamX.lamS_by (sc := defScope s__law_right) (by decide +kernel)) rfl (fun _ _ _ _ _ => rfl) (fun _ _ _ _ E _ _ hr => (pe_call F_divisors (hr.mono (by decide)) rfl g_divisors k_divisors b_divisors .nil (passes_call (takes_of rfl rfl rfl rfl) (fun _ _ _ _ h => h)) (pa_cons (pv 1) pa_nil)))) pa_nil)))
      (pss_cons (ps_expr (pe_bm PySem.F.plainAttrs_list PySem.F.slot_list_append PySem.F.type_list_append mt_append (pv 5) (pa_cons (pe_met (k := 4) F__law_met gg__law_met hb__law_met sc__law_met rfl (.inl rfl) (hr.mono (by decide)) (fun cdv hr2 => met_gives T hgd hr2) rfl tb rfl (.head _) (hu__law_right dis) (LamX.lamS_by (sc := defScope s__law_right) (by decide +kernel)) rfl (fun _ _ _ _ _ => rfl) (fun _ _ _ _ E _ _ hr => (pe_call F_units_number (hr.mono (by decide)) rfl g_units_number k_units_number b_units_number .nil (passes_call (takes_of rfl rfl rfl rfl) (fun _ _ _ _ h => h)) (pa_cons (pv 1) pa_nil)))) pa_nil)))
      (pss_cons (ps_expr (pe_bm PySem.F.plainAttrs_list PySem.F.slot_list_append PySem.F.type_list_append mt_append (pv 5) (pa_cons (pe_met (k := 4) F__law_met gg__law_met hb__law_met sc__law_met rfl (.inl rfl) (hr.mono (by decide)) (fun cdv hr2 => met_gives T hgd hr2) rfl tb rfl (.head _) (hu__law_right dis) (LamX.lamS_by (sc := defScope s__law_right) (by decide +kernel)) rfl (fun _ _ _ _ _ => rfl) (fun _ _ _ _ E _ _ hr => (pe_call F_order_of (hr.mono (by decide)) rfl g_order_of k_order_of b_order_of .nil (passes_call (takes_of rfl rfl rfl rfl) (fun _ _ _ _ h => h)) (pa_cons (pv 1) (pa_cons pe_non pa_nil))))) pa_nil)))
      (pss_cons (ps_if (pt_cmpR (op_neD hu64) (pv 5) (pe_op op_rep (pe_lst (pa_cons (pv 4) pa_nil)) pe_int) (nomark _)) (pss_one (ps_ret pe_bl)) pss_nil)
      (pss_cons (ps_set (i := 6) sc__law_right.nd rfl (by first | exact Or.inl rfl | exact Or.inr rfl) (pe_call F__law_pick (hr.mono (by decide)) rfl g__law_pick k__law_pick b__law_pick .nil pass0 (pa_cons (pv 0) (pa_cons (pe_lst (pa_cons pe_non (pa_cons pe_bl (pa_cons pe_str (pa_cons (pe_tup (pa_cons pe_int (pa_cons pe_int pa_nil))) (pa_cons (pe_op op_pow pe_int pe_int) (pa_cons (pe_lst (pa_cons pe_int pa_nil)) pa_nil))))))) pa_nil))))
      (pss_cons (ps_set (i := 5) sc__law_right.nd rfl (by first | exact Or.inl rfl | exact Or.inr rfl) (pe_lst (pa_cons (pe_met (k := 4) F__law_met gg__law_met hb__law_met sc__law_met rfl (.inl rfl) (hr.mono (by decide)) (fun cdv hr2 => met_gives T hgd hr2) rfl tb rfl (.head _) (hu__law_right dis) (LamX.lamS_by (sc := defScope s__law_right) (by decide +kernel)) rfl (fun _ _ _ _ _ => rfl) (fun _ _ _ _ E _ _ hr => (pe_call F_order_of (hr.mono (by decide)) rfl g_order_of k_order_of b_order_of .nil (passes_call (takes_of rfl rfl rfl rfl) (fun _ _ _ _ h => h)) (pa_cons pe_int (pa_cons (pv 6) pa_nil))))) pa_nil)))
      (pss_cons (ps_expr (pe_bm PySem.F.plainAttrs_list PySem.F.slot_list_append PySem.F.type_list_append mt_append (pv 5) (pa_cons (pe_met (k := 4) F__law_met gg__law_met hb__law_met sc__law_met rfl (.inl rfl) (hr.mono (by decide)) (fun cdv hr2 => met_gives T hgd hr2) rfl tb rfl (.head _) (hu__law_right dis) (LamX.lamS_by (sc := defScope s__law_right) (by decide +kernel)) rfl (fun _ _ _ _ _ => rfl) (fun _ _ _ _ E _ _ hr => (pe_call F_least_maker (hr.mono (by decide)) rfl g_least_maker k_least_maker b_least_maker .nil (passes_call (takes_of rfl rfl rfl rfl) (fun _ _ _ _ h => h)) (pa_cons (pv 3) pa_nil)))) pa_nil)))
      (pss_cons (ps_expr (pe_bm PySem.F.plainAttrs_list PySem.F.slot_list_append PySem.F.type_list_append mt_append (pv 5) (pa_cons (pe_met (k := 4) F__law_met gg__law_met hb__law_met sc__law_met rfl (.inl rfl) (hr.mono (by decide)) (fun cdv hr2 => met_gives T hgd hr2) rfl tb rfl (.head _) (hu__law_right dis) (LamX.lamS_by (sc := defScope s__law_right) (by decide +kernel)) rfl (fun _ _ _ _ _ => rfl) (fun _ _ _ _ E _ _ hr => (pe_call F_prime_parts_answer (hr.mono (by decide)) rfl g_prime_parts_answer k_prime_parts_answer b_prime_parts_answer .nil (passes_call (takes_of rfl rfl rfl rfl) (fun _ _ _ _ h => h)) (pa_cons (pv 2) pa_nil)))) pa_nil)))
      (pss_cons (ps_expr (pe_bm PySem.F.plainAttrs_list PySem.F.slot_list_append PySem.F.type_list_append mt_append (pv 5) (pa_cons (pe_met (k := 4) F__law_met gg__law_met hb__law_met sc__law_met rfl (.inl rfl) (hr.mono (by decide)) (fun cdv hr2 => met_gives T hgd hr2) rfl tb rfl (.head _) (hu__law_right dis) (LamX.lamS_by (sc := defScope s__law_right) (by decide +kernel)) rfl (fun _ _ _ _ _ => rfl) (fun _ _ _ _ E _ _ hr => (pe_call F_divisors (hr.mono (by decide)) rfl g_divisors k_divisors b_divisors .nil (passes_call (takes_of rfl rfl rfl rfl) (fun _ _ _ _ h => h)) (pa_cons (pv 2) pa_nil)))) pa_nil)))
      (pss_cons (ps_expr (pe_bm PySem.F.plainAttrs_list PySem.F.slot_list_append PySem.F.type_list_append mt_append (pv 5) (pa_cons (pe_met (k := 4) F__law_met gg__law_met hb__law_met sc__law_met rfl (.inl rfl) (hr.mono (by decide)) (fun cdv hr2 => met_gives T hgd hr2) rfl tb rfl (.head _) (hu__law_right dis) (LamX.lamS_by (sc := defScope s__law_right) (by decide +kernel)) rfl (fun _ _ _ _ _ => rfl) (fun _ _ _ _ E _ _ hr => (pe_call F_units_number (hr.mono (by decide)) rfl g_units_number k_units_number b_units_number .nil (passes_call (takes_of rfl rfl rfl rfl) (fun _ _ _ _ h => h)) (pa_cons (pv 2) pa_nil)))) pa_nil)))
      (pss_cons (ps_expr (pe_bm PySem.F.plainAttrs_list PySem.F.slot_list_append PySem.F.type_list_append mt_append (pv 5) (pa_cons (pe_met (k := 4) F__law_met gg__law_met hb__law_met sc__law_met rfl (.inl rfl) (hr.mono (by decide)) (fun cdv hr2 => met_gives T hgd hr2) rfl tb rfl (.head _) (hu__law_right dis) (LamX.lamS_by (sc := defScope s__law_right) (by decide +kernel)) rfl (fun _ _ _ _ _ => rfl) (fun _ _ _ _ E _ _ hr => (pe_call F_order_of (hr.mono (by decide)) rfl g_order_of k_order_of b_order_of .nil (passes_call (takes_of rfl rfl rfl rfl) (fun _ _ _ _ h => h)) (pa_cons (pv 2) (pa_cons pe_int pa_nil))))) pa_nil)))
      (pss_cons (ps_set (i := 7) sc__law_right.nd rfl (by first | exact Or.inl rfl | exact Or.inr rfl) (pe_op op_cat (pe_lst (pa_cons (pe_tup (pa_cons pe_str (pa_cons pe_str (pa_cons (pe_callB (call_repV2 (K := K) rfl hgd hu80) (by rfl) hf_repr (by decide +kernel) (pa_cons (pv 6) pa_nil)) pa_nil)))) (pa_cons (pe_tup (pa_cons pe_str (pa_cons pe_str (pa_cons (pe_callB (call_repV2 (K := K) rfl hgd hu80) (by rfl) hf_repr (by decide +kernel) (pa_cons (pv 3) pa_nil)) pa_nil)))) pa_nil))) (pe_op op_rep (pe_lst (pa_cons (pe_tup (pa_cons pe_str (pa_cons pe_str (pa_cons (pe_callB (call_repV2 (K := K) rfl hgd hu80) (by rfl) hf_repr (by decide +kernel) (pa_cons (pv 2) pa_nil)) pa_nil)))) pa_nil)) pe_int)))
      (pss_cons (ps_if (pt_cmpR (op_neD hu64) (pv 5) (pv 7) (nomark _)) (pss_one (ps_ret pe_bl)) pss_nil)
      (pss_cons (ps_set (i := 8) sc__law_right.nd rfl (by first | exact Or.inl rfl | exact Or.inr rfl) (pe_op op_add pe_int (pe_call F__law_roll (hr.mono (by decide)) rfl g__law_roll k__law_roll b__law_roll .nil pass0 (pa_cons (pv 0) (pa_cons pe_int pa_nil)))))
      (pss_one (ps_ret (pe_cmpR (op_eqD hu64) (pe_met (k := 4) F__law_met gg__law_met hb__law_met sc__law_met rfl (.inl rfl) (hr.mono (by decide)) (fun cdv hr2 => met_gives T hgd hr2) rfl tb rfl (.head _) (hu__law_right dis) (LamX.lamS_by (sc := defScope s__law_right) (by decide +kernel)) rfl (fun _ _ _ _ _ => rfl) (fun _ _ _ _ E _ _ hr => (pe_call F_order_of (hr.mono (by decide)) rfl g_order_of k_order_of b_order_of .nil (passes_call (takes_of rfl rfl rfl rfl) (fun _ _ _ _ h => h)) (pa_cons (pe_op op_mulU (pv 8) pe_int) (pa_cons (pe_op op_mulU (pv 8) (pe_op op_sub (pe_call F__law_roll (hr.mono (by decide)) rfl g__law_roll k__law_roll b__law_roll .nil pass0 (pa_cons (pv 0) (pa_cons pe_int pa_nil))) pe_int)) pa_nil))))) (pe_tup (pa_cons pe_str (pa_cons pe_str pa_nil))) (nomark _))))))))))))))))))))))))))
/-! ### law -/
theorem sc_law : FnScope ["script", "spot", "told", "due"] ["script"] (defScope s_law) := ⟨rfl, rfl, rfl, by decide +kernel, rfl, by decide +kernel, by decide +kernel⟩
def sp_law (K : PySem.W.Frag) : Sp := fun vs H Q _ => ∃ (a : Addr) (ns : List Int), vs = [.ref a] ∧ SqL K H a (ns.map V.int) ∧ ns.length ≤ 63 ∧ LamX.Tabs (Ts K) H ∧ ∀ H', Q (.bl true) H'
theorem len_law {K : PySem.W.Frag} {vs : List V} {H : Hp} {Q : VK} {E : XK} (h : sp_law K vs H Q E) : vs.length = ["script"].length := by
  obtain ⟨_, _, rfl, _⟩ := h
  rfl
def t_law_f1_b (K : PySem.W.Frag) : TS := (tIfS (tNot (tB (tCall (sp__law_right K) [] E0 (tCons (tCall (sp__law_dice K) [] E0 (tCons (tVar 0) (tCons (tVar 1) tNil))) tNil)))) (tRet (tC (.bl false))) tNext)
def t_law_k2_b (K : PySem.W.Frag) : TS := (tSeq (tAsg (tLst (tCons (LamX.tLam (Ts K) (TMet K) (fun E => (tCall (sp_is_prime K) [] E (tCons (tOp rPowU (tC (.int 10)) (tC (.int 8))) tNil)))) tNil)) (gName 2))
  (tSeq (tDrop (tBM K "list" rAppend (tVar 2) (tCons (LamX.tLam (Ts K) (TMet K) (fun E => (tCall (sp_next_prime K) [] E (tCons (tOp rPowU (tC (.int 10)) (tC (.int 8))) tNil)))) tNil)))
  (tSeq (tDrop (tBM K "list" rAppend (tVar 2) (tCons (LamX.tLam (Ts K) (TMet K) (fun E => (tCall (sp_prime_answer K) [] E (tCons (tOp rPowU (tC (.int 10)) (tC (.int 8))) tNil)))) tNil)))
  (tSeq (tDrop (tBM K "list" rAppend (tVar 2) (tCons (LamX.tLam (Ts K) (TMet K) (fun E => (tCall (sp_is_prime K) [] E (tCons (tC (.int 0)) tNil)))) tNil)))
  (tSeq (tDrop (tBM K "list" rAppend (tVar 2) (tCons (LamX.tLam (Ts K) (TMet K) (fun E => (tCall (sp_order_of K) [] E (tCons (tOp rPowU (tC (.int 10)) (tC (.int 8))) (tCons (tC (.int 1)) tNil))))) tNil)))
  (tSeq (tDrop (tBM K "list" rAppend (tVar 2) (tCons (LamX.tLam (Ts K) (TMet K) (fun E => (tCall (sp_prime_answer K) [] E (tCons (tC (.int 1)) tNil)))) tNil)))
  (tSeq (tDrop (tBM K "list" rAppend (tVar 2) (tCons (LamX.tLam (Ts K) (TMet K) (fun E => (tCall (sp_prime_answer K) [] E (tCons (tC (.int 0)) tNil)))) tNil)))
  (tSeq (tAsg (tOp rCat (tOp rRep (tLst (tCons (tTup (tCons (tC (.str "fine")) tNil)) tNil)) (tC (.int 5))) (tLst (tCons (tTup (tCons (tC (.str "refused")) (tCons (tC (.str "number")) (tCons (tC (.str "1")) tNil)))) (tCons (tTup (tCons (tC (.str "refused")) (tCons (tC (.str "number")) (tCons (tC (.str "0")) tNil)))) tNil)))) (gName 3))
  (tRet (tAndV (tOp (rEqD K) (tVar 2) (tVar 3)) (tAndV (tOp rEq (tC (.int 100000000)) (tOp rPowU (tC (.int 10)) (tC (.int 8)))) (tOp (rEqD K) (LamX.tLam (Ts K) (TMet K) (fun E => (tCall (sp_order_of K) [] E (tCons (tC (.int 6)) (tCons (tC (.int 3)) tNil))))) (tTup (tCons (tC (.str "refused")) (tCons (tC (.str "operation")) tNil)))))))))))))))
def t_law (K : PySem.W.Frag) : TS := (tSeq (tFor (iRng1 (tCons (tCB (rMax2) (tCons (tC (.int 1)) (tCons (tCB (rMin2) (tCons (tC (.int 4)) (tCons (tCB (rLenU K) (tCons (tVar 0) tNil)) tNil))) tNil))) tNil)) (gName 1) (t_law_f1_b K))
  (t_law_k2_b K))
def noDivB (n k : Nat) : Bool := (List.range k).all fun i => n % (i + 2) != 0
theorem prime_by {n k : Nat} (h1 : 1 < n) (h2 : n < (k + 2) * (k + 2)) (h : noDivB n k = true) : PrimeN n :=
  (prime_end h1 h2 fun j j1 j2 jd => by
    have c := List.all_eq_true.mp h (j - 2) (List.mem_range.mpr (by omega))
    rw [show j - 2 + 2 = j by omega, Nat.mod_eq_zero_of_dvd jd] at c
    simp at c).1
theorem great_prime : PrimeN 100000007 := prime_by (k := 9999) (by decide) (by decide) (by decide +kernel)
theorem great_primeI : PrimeI (100000007 : Nat) := ⟨by decide, fun k a b c => by
  obtain ⟨j, rfl⟩ : ∃ j : Nat, k = j := ⟨k.toNat, by omega⟩
  exact great_prime.2 j (by omega) (by omega) (Int.natCast_dvd_natCast.mp c)⟩
theorem sqL_kn {K : PySem.W.Frag} {H H' : Hp} {D a : Addr} {xs : List V} (h : SqL K H a xs) (n : H D = none) (k : KN [D] H H') : SqL K H' a xs := by
  have step : ∀ o, H a = some o → (∀ ps, o ≠ .tbl ps) → H' a = some o := fun o e t => k a o (fun z => by
    have : a = D := by simpa using z
    subst this
    rw [n] at e
    cases e) e t
  rcases h with (h | ⟨o, h⟩) | h
  · exact .inl (.inl (step _ h (fun _ z => by cases z)))
  · exact .inl (.inr ⟨o, step _ h (fun _ z => by cases z)⟩)
  · exact .inr h
/-- the words so far, where there are no dice -/
structure Wd0 (K : PySem.W.Frag) (L : Addr) (ws : List (List Str)) (H : Hp) : Prop where
  tb : LamX.Tabs (Ts K) H
  t : Told H L ws
theorem app0 {K : PySem.W.Frag} {L : Addr} {H : Hp} {ws : List (List Str)} {w : List Str} {tl : XK → Hp → VK → Prop} {R : V → Hp → Prop} (s : Wd0 K L ws H) (hl : ws.length < 1000) (hw : w.all PyData.strOk = true)
    (h : ∀ H1 Q, (∀ q H2, Same H1 H2 → H2 q = some (.tup (w.map V.str)) → Q (V.ref q) H2) → TMet K tl H1 Q) (hr : ∀ H3, Wd0 K L (ws ++ [w]) H3 → R .non H3) :
    tyV K "list" (V.ref L) H ∧ LamX.Tabs (Ts K) H ∧ ∀ H1, LamX.ExtN H H1 → LamX.Tabs (Ts K) H1 → TMet K tl H1 fun x H2 => rAppend (V.ref L) [x] H2 R := by
  obtain ⟨xs, hL, hx⟩ := s.t
  refine ⟨.inl ⟨rfl, xs, sqL_of hL⟩, s.tb, fun H1 e1 t1 => h H1 _ fun q H2 s2 hq => ?_⟩
  obtain ⟨xs2, hL2, hx2⟩ := s.t.ext (e1.trans (ExtN.same s2))
  refine ⟨L, xs2, .ref q, rfl, rfl, hL2, ?_, hr _ ⟨Tabs.keep (t1.ext fun b o e => s2 b o e) hL2 (fun b o n e => by rw [upd_ne n]; exact e), Told.put hL2 hx2 hq hw⟩⟩
  have := hx2.len
  rw [sizeLine_eq]
  omega
theorem first0 {K : PySem.W.Frag} {H : Hp} {w : List Str} {tl : XK → Hp → VK → Prop} {R : V → Hp → Addr → Prop} (tb : LamX.Tabs (Ts K) H) (hw : w.all PyData.strOk = true)
    (h : ∀ H1 Q, (∀ q H2, Same H1 H2 → H2 q = some (.tup (w.map V.str)) → Q (V.ref q) H2) → TMet K tl H1 Q) (hr : ∀ L q H3, Wd0 K L [w] (upd H3 L (.lst [.ref q])) → R (.ref q) H3 L) :
    LamX.Tabs (Ts K) H ∧ ∀ H1, LamX.ExtN H H1 → LamX.Tabs (Ts K) H1 → TMet K tl H1 fun x H2 => 1 ≤ sizeLine ∧ ∀ p, H2 p = none → R x H2 p := by
  refine ⟨tb, fun H1 e1 t1 => h H1 _ fun q H2 s2 hq => ⟨by decide, fun L hn => hr L q _ ⟨(t1.ext fun b o e => s2 b o e).ext fun b o e => same_upd hn b o e, [.ref q], upd_same, ?_⟩⟩⟩
  exact .cons ⟨q, rfl, same_upd hn _ _ hq, hw⟩ .nil
theorem met_int {K : PySem.W.Frag} {i : Int} {z : Str} {H : Hp} {Q : VK} {tl : XK → Hp → VK → Prop} (r : repOk (.int i) = true) (hz : (PyData.int i).shown = z) (h : ∀ E Q', RaiseN K E H (.int i) → tl E H Q')
    (hq : ∀ q H', Same H H' → H' q = some (.tup (List.map V.str ["refused", "number", z])) → Q (.ref q) H') : TMet K tl H Q := by
  subst hz
  exact met_num (no := []) (d := .int i) (v := .int i) (by rw [Pl]) r h hq
theorem pure_law (K : PySem.W.Frag) (vs : List V) (H : Hp) (Q : VK) (E : XK) (h : sp_law K vs H Q E) : t_law K { nx := fun _ H' => Q .non H', rt := Q } (start ["script", "spot", "told", "due"] vs) H := by
  obtain ⟨a, ns, rfl, hS, hl, hT, hq⟩ := h
  unfold t_law
  walk_at "z"
  have tail : ∀ (H1 : Hp) (o : Option V), LamX.Tabs (Ts K) H1 → t_law_k2_b K { nx := fun x H' => Q V.non H', rt := Q } [some (V.ref a), o, none, none] H1 := by
    intro H1 o hT1
    unfold t_law_k2_b
    walk_at "z"
    refine first0 (w := ["fine"]) hT1 (by decide +kernel) (fun H2 Q2 hQ2 => met_fine (fun E Q' hQ' => ?_) hQ2) fun L q H3 s => ?_
    · exact ⟨cpow (by decide), _, rfl, trivial, fun ho => by rcases ho _ rfl with z | z <;> simp at z, fun n e n1 n2 b hb => hQ' _ _ (Same.refl _)⟩
    refine app0 s (w := ["fine"]) (by simp) (by decide +kernel) (fun H2 Q2 hQ2 => met_fine (fun E Q' hQ' => ?_) hQ2) fun H3 s => ?_
    · refine ⟨cpow (by decide), _, rfl, trivial, fun ho => by rcases ho _ rfl with z | z <;> simp at z, fun n e n1 n2 => ⟨100000007, ?_, by decide, great_primeI, fun m => hQ' _ _ (Same.refl _)⟩⟩
      have n3 : n ≤ 100000000 := n2
      omega
    refine app0 s (w := ["fine"]) (by simp) (by decide +kernel) (fun H2 Q2 hQ2 => met_fine (fun E Q' hQ' => ?_) hQ2) fun H3 s => ?_
    · refine ⟨cpow (by decide), _, rfl, trivial, fun ho => by rcases ho _ rfl with z | z <;> simp at z, fun n e n1 n2 => ⟨fun hp => ?_, fun A H' s' => hQ' _ _ s'⟩⟩
      injection e with e
      subst e
      exact hp.2 2 (by decide) (by decide) (by decide)
    refine app0 s (w := ["fine"]) (by simp) (by decide +kernel) (fun H2 Q2 hQ2 => met_fine (fun E Q' hQ' => ?_) hQ2) fun H3 s => ?_
    · exact ⟨_, rfl, trivial, fun ho => by rcases ho _ rfl with z | z <;> simp at z, fun n e n1 n2 b hb => hQ' _ _ (Same.refl _)⟩
    refine app0 s (w := ["fine"]) (by simp) (by decide +kernel) (fun H2 Q2 hQ2 => met_fine (fun E Q' hQ' => ?_) hQ2) fun H3 s => ?_
    · refine ⟨cpow (by decide), _, _, rfl, trivial, trivial, fun ho => by rcases ho _ rfl with z | z <;> simp at z, fun m em m1 m2 => ⟨fun ho => by rcases ho _ rfl with z | z <;> simp at z, fun n en n1 n2 => ?_⟩⟩
      injection en with en
      subst en
      refine ⟨fun hg => absurd (by simp) hg, fun hg => ⟨by rw [Int.one_pow], fun k H' s' => hQ' _ _ s'⟩⟩
    refine app0 s (w := ["refused", "number", "1"]) (by simp) (by decide +kernel) (fun H2 Q2 hQ2 => met_int (i := 1) (by decide +kernel) (by decide +kernel) (fun E Q' hR => ?_) hQ2) fun H3 s => ?_
    · exact ⟨_, rfl, trivial, fun _ => hR, fun n e n1 n2 => by injection e with e; omega⟩
    refine app0 s (w := ["refused", "number", "0"]) (by simp) (by decide +kernel) (fun H2 Q2 hQ2 => met_int (i := 0) (by decide +kernel) (by decide +kernel) (fun E Q' hR => ?_) hQ2) fun H3 s => ?_
    · exact ⟨_, rfl, trivial, fun _ => hR, fun n e n1 n2 => by injection e with e; omega⟩
    walk_at "z"
    refine ⟨by decide, fun q1 h1 => ⟨by decide, fun M1 hM1 => ⟨M1, 5, [V.ref q1], rfl, rfl, upd_same, by decide, by decide, (show 1 * 5 ≤ sizeLine by decide), fun M2 hM2 => ⟨by decide, fun q2 h2 => ⟨by decide, fun q3 h3 => ⟨by decide, fun M3 hM3 => ?_⟩⟩⟩⟩⟩⟩
    have e1 := same_upd (o := .tup [V.str "fine"]) h1
    have e2 := same_upd (o := .lst [V.ref q1]) hM1
    have e3 := same_upd (o := .lst (List.replicate (5 : Int).toNat [V.ref q1]).flatten) hM2
    have e4 := same_upd (o := .tup [V.str "refused", V.str "number", V.str "1"]) h2
    have e5 := same_upd (o := .tup [V.str "refused", V.str "number", V.str "0"]) h3
    have e6 := same_upd (o := .lst [V.ref q2, V.ref q3]) hM3
    refine ⟨M2, M3, _, [V.ref q2, V.ref q3], rfl, rfl, e6 _ _ (e5 _ _ (e4 _ _ upd_same)), upd_same, (show 5 + 2 ≤ sizeLine by decide), fun M4 hM4 => ?_⟩
    have e7 := same_upd (o := .lst ((List.replicate (5 : Int).toNat [V.ref q1]).flatten ++ [V.ref q2, V.ref q3])) hM4
    have eA := (((((e1.trans e2).trans e3).trans e4).trans e5).trans e6).trans e7
    have g1 := e7 _ _ (e6 _ _ (e5 _ _ (e4 _ _ (e3 _ _ (e2 _ _ (upd_same (H := H3) (a := q1) (o := .tup [V.str "fine"])))))))
    have tb9 := s.tb.ext fun b o e => eA b o e
    refine eq_told (ws := [["fine"], ["fine"], ["fine"], ["fine"], ["fine"], ["refused", "number", "1"], ["refused", "number", "0"]]) (s.t.same eA) ⟨_, upd_same, ?_⟩ ⟨true, rfl, ?_⟩
    · have w0 : (["fine"] : List Str).all PyData.strOk = true := by decide +kernel
      have c0 : ∃ p, V.ref q1 = V.ref p ∧ _ = some (HO.tup (List.map V.str ["fine"])) ∧ _ := ⟨q1, rfl, g1, w0⟩
      refine .cons c0 (.cons c0 (.cons c0 (.cons c0 (.cons c0 ?_))))
      exact .cons ⟨q2, rfl, e7 _ _ (e6 _ _ (e5 _ _ upd_same)), by decide +kernel⟩ (.cons ⟨q3, rfl, e7 _ _ (e6 _ _ upd_same), by decide +kernel⟩ .nil)
    rw [if_pos rfl]
    refine ⟨cpow (by decide), ?_⟩
    rw [if_pos (by decide)]
    refine ⟨tb9, fun H5 x5 t5 => met_op (G := fun _ => True) (fun E2 Q2 hE => ?_) fun q H6 H7 _ _ hq7 => ⟨by decide, fun p hp => ?_⟩⟩
    · refine ⟨_, _, rfl, trivial, trivial, fun ho => by rcases ho _ rfl with z | z <;> omega, fun m em m1 m2 => ⟨fun ho => by rcases ho _ rfl with z | z <;> omega, fun n en n1 n2 => ⟨fun _ => hE _ trivial, fun hg => ?_⟩⟩⟩
      have em : (6 : Int) = m := by injection em
      have en : (3 : Int) = n := by injection en
      obtain rfl : m = 6 := by omega
      subst en
      exact absurd hg (by decide)
    · refine ⟨.tuple [.str "refused", .str "operation"], .tuple [.str "refused", .str "operation"], .tup (sqT_of (same_upd hp _ _ hq7)) (.cons (.str _) (.cons (.str _) .nil)), .tup (sqT_of upd_same) (.cons (.str _) (.cons (.str _) .nil)), by decide +kernel, by decide +kernel, ?_⟩
      rw [show PyData.eqv (.tuple [.str "refused", .str "operation"]) (.tuple [.str "refused", .str "operation"]) = true by decide +kernel]
      exact hq _
  refine lenL hS ?_
  walk_at "z"
  refine ⟨_, rfl, by split <;> split <;> omega, by split <;> split <;> omega, for_R (fun i σ H' => ∃ o : Option V, σ = [some (V.ref a), o, none, none] ∧ SqL K H' a (ns.map V.int) ∧ LamX.Tabs (Ts K) H') ⟨none, rfl, hS, hT⟩ (fun i σ H' hi h N hN => ?_) (fun σ H' h => ?_)⟩
  · obtain ⟨o, rfl, hS', hT'⟩ := h
    unfold t_law_f1_b
    walk_at "z"
    refine ⟨a, ns, i, by simp, hS', fun D H2 hn s2 hD => ?_⟩
    walk_at "z"
    refine ⟨D, rfl, hD, hT'.ext fun b o e => s2 b o e, fun H3 k3 t3 => ?_⟩
    walk_at "z"
    refine hN _ _ ⟨_, rfl, sqL_kn ?_ ?_ (KN.trans (KN.same s2) k3), t3⟩
    · exact hS'
    · exact hn
  · obtain ⟨o, rfl, _, hT'⟩ := h
    exact tail H' o hT'

theorem okF_law {P : Program} {w : World} {K : PySem.W.Frag} {mg : Str → Option Value} {base : Heap} {fd : FuncData} (T : Tx K mg) (F : FunD K "law" "law" (defArgs s_law) (defBody s_law) (defScope s_law) [] [] (He.ga K "law") fd) (TB : ∀ p ∈ tfs, LamX.TabB base mg (He.cT K p).1 (He.cT K p).2) : FnOkG P w K mg base CX0 8 (He.ga K "law") fd ["script"] (sp_law K) := by
  obtain ⟨fd_is_prime, F_is_prime, b_is_prime, g_is_prime, k_is_prime⟩ := ok_is_prime (P := P) (w := w) (base := base) T
  obtain ⟨fd_next_prime, F_next_prime, b_next_prime, g_next_prime, k_next_prime⟩ := ok_next_prime (P := P) (w := w) (base := base) T
  obtain ⟨fd_prime_answer, F_prime_answer, b_prime_answer, g_prime_answer, k_prime_answer⟩ := ok_prime_answer (P := P) (w := w) (base := base) T
  obtain ⟨fd_order_of, F_order_of, b_order_of, g_order_of, k_order_of⟩ := ok_order_of (P := P) (w := w) (base := base) T
  obtain ⟨fd__law_dice, F__law_dice, b__law_dice, g__law_dice, k__law_dice⟩ := ok__law_dice (P := P) (w := w) (base := base) T
  obtain ⟨fd__law_right, F__law_right, b__law_right, g__law_right, k__law_right⟩ := ok__law_right (P := P) (w := w) (base := base) T TB
  obtain ⟨_, hc_MOST⟩ := T.c_MOST
  have hf_len := T.n_len
  have hf_max := T.n_max
  have hf_min := T.n_min
  have hf_range := T.n_range
  have dis := T.dis
  obtain ⟨fd__law_met, F__law_met⟩ := T.f__law_met
  have gg__law_met := T.g__law_met
  have hb__law_met := F__law_met.bindsN (ps := ["call"]) (fun _ _ _ _ _ _ us hl => match us, hl with | [_], _ => rfl)
  refine okG F sc_law (fun vs H Q E h => len_law h) (fun c A outer s H vs Q E hc hgd hr h => ⟨t_law K, PSs.nox ?_, pure_law K vs H Q E h⟩)
  have tb := TB ("law", none) (by simp [tfs])
  have ec : (He.cT K ("law", none)).1 = c := codeOf_fd F hc
  rw [ec] at tb
  have hu80 := hu80_of hr
  have hu64 := hu64_of hr
  exact (pss_cons (ps_for PassesOwn.never rfl (pi_range1 rfl hf_range (pa_cons (pe_callB (call_max2 rfl) (by rfl) hf_max (by decide +kernel) (pa_cons pe_int (pa_cons (pe_callB (call_min2 rfl) (by rfl) hf_min (by decide +kernel) (pa_cons pe_int (pa_cons (pe_callB call_len_seq (by rfl) hf_len (by decide +kernel) (pa_cons (pv 0) pa_nil)) pa_nil))) pa_nil))) pa_nil)) (pg_name (i := 1) sc_law.nd rfl (by first | exact Or.inl rfl | exact Or.inr rfl)) (pss_one (ps_if (pt_not (pt_val (pe_callG F__law_right hgd (hr.mono (by decide)) rfl g__law_right k__law_right b__law_right pass0 (pa_cons (pe_call F__law_dice (hr.mono (by decide)) rfl g__law_dice k__law_dice b__law_dice .nil pass0 (pa_cons (pv 0) (pa_cons (pv 1) pa_nil))) pa_nil)))) (pss_one (ps_ret pe_bl)) pss_nil)))
      (pss_cons (ps_set (i := 2) sc_law.nd rfl (by first | exact Or.inl rfl | exact Or.inr rfl) (pe_lst (pa_cons (pe_met (k := 4) F__law_met gg__law_met hb__law_met sc__law_met rfl (.inl rfl) (hr.mono (by decide)) (fun cdv hr2 => met_gives T hgd hr2) rfl tb rfl (.tail _ (.head _)) (hu_law dis) (LamX.lamS_by (sc := defScope s_law) (by decide +kernel)) rfl (fun _ _ _ _ _ => rfl) (fun _ _ _ _ E _ _ hr => (pe_call F_is_prime (hr.mono (by decide)) rfl g_is_prime k_is_prime b_is_prime .nil (passes_call (takes_of rfl rfl rfl rfl) (fun _ _ _ _ h => h)) (pa_cons (pe_op op_pow pe_int pe_int) pa_nil)))) pa_nil)))
      (pss_cons (ps_expr (pe_bm PySem.F.plainAttrs_list PySem.F.slot_list_append PySem.F.type_list_append mt_append (pv 2) (pa_cons (pe_met (k := 4) F__law_met gg__law_met hb__law_met sc__law_met rfl (.inl rfl) (hr.mono (by decide)) (fun cdv hr2 => met_gives T hgd hr2) rfl tb rfl (.tail _ (.head _)) (hu_law dis) (LamX.lamS_by (sc := defScope s_law) (by decide +kernel)) rfl (fun _ _ _ _ _ => rfl) (fun _ _ _ _ E _ _ hr => (pe_call F_next_prime (hr.mono (by decide)) rfl g_next_prime k_next_prime b_next_prime .nil (passes_call (takes_of rfl rfl rfl rfl) (fun _ _ _ _ h => h)) (pa_cons (pe_op op_pow pe_int pe_int) pa_nil)))) pa_nil)))
      (pss_cons (ps_expr (pe_bm PySem.F.plainAttrs_list PySem.F.slot_list_append PySem.F.type_list_append mt_append (pv 2) (pa_cons (pe_met (k := 4) F__law_met gg__law_met hb__law_met sc__law_met rfl (.inl rfl) (hr.mono (by decide)) (fun cdv hr2 => met_gives T hgd hr2) rfl tb rfl (.tail _ (.head _)) (hu_law dis) (LamX.lamS_by (sc := defScope s_law) (by decide +kernel)) rfl (fun _ _ _ _ _ => rfl) (fun _ _ _ _ E _ _ hr => (pe_call F_prime_answer (hr.mono (by decide)) rfl g_prime_answer k_prime_answer b_prime_answer .nil (passes_call (takes_of rfl rfl rfl rfl) (fun _ _ _ _ h => h)) (pa_cons (pe_op op_pow pe_int pe_int) pa_nil)))) pa_nil)))
      (pss_cons (ps_expr (pe_bm PySem.F.plainAttrs_list PySem.F.slot_list_append PySem.F.type_list_append mt_append (pv 2) (pa_cons (pe_met (k := 4) F__law_met gg__law_met hb__law_met sc__law_met rfl (.inl rfl) (hr.mono (by decide)) (fun cdv hr2 => met_gives T hgd hr2) rfl tb rfl (.tail _ (.head _)) (hu_law dis) (LamX.lamS_by (sc := defScope s_law) (by decide +kernel)) rfl (fun _ _ _ _ _ => rfl) (fun _ _ _ _ E _ _ hr => (pe_call F_is_prime (hr.mono (by decide)) rfl g_is_prime k_is_prime b_is_prime .nil (passes_call (takes_of rfl rfl rfl rfl) (fun _ _ _ _ h => h)) (pa_cons pe_int pa_nil)))) pa_nil)))
      (pss_cons (ps_expr (pe_bm PySem.F.plainAttrs_list PySem.F.slot_list_append PySem.F.type_list_append mt_append (pv 2) (pa_cons (pe_met (k := 4) F__law_met gg__law_met hb__law_met sc__law_met rfl (.inl rfl) (hr.mono (by decide)) (fun cdv hr2 => met_gives T hgd hr2) rfl tb rfl (.tail _ (.head _)) (hu_law dis) (LamX.lamS_by (sc := defScope s_law) (by decide +kernel)) rfl (fun _ _ _ _ _ => rfl) (fun _ _ _ _ E _ _ hr => (pe_call F_order_of (hr.mono (by decide)) rfl g_order_of k_order_of b_order_of .nil (passes_call (takes_of rfl rfl rfl rfl) (fun _ _ _ _ h => h)) (pa_cons (pe_op op_pow pe_int pe_int) (pa_cons pe_int pa_nil))))) pa_nil)))
      (pss_cons (ps_expr (pe_bm PySem.F.plainAttrs_list PySem.F.slot_list_append PySem.F.type_list_append mt_append (pv 2) (pa_cons (pe_met (k := 4) F__law_met gg__law_met hb__law_met sc__law_met rfl (.inl rfl) (hr.mono (by decide)) (fun cdv hr2 => met_gives T hgd hr2) rfl tb rfl (.tail _ (.head _)) (hu_law dis) (LamX.lamS_by (sc := defScope s_law) (by decide +kernel)) rfl (fun _ _ _ _ _ => rfl) (fun _ _ _ _ E _ _ hr => (pe_call F_prime_answer (hr.mono (by decide)) rfl g_prime_answer k_prime_answer b_prime_answer .nil (passes_call (takes_of rfl rfl rfl rfl) (fun _ _ _ _ h => h)) (pa_cons pe_int pa_nil)))) pa_nil)))
      (pss_cons (ps_expr (pe_bm PySem.F.plainAttrs_list PySem.F.slot_list_append PySem.F.type_list_append mt_append (pv 2) (pa_cons (pe_met (k := 4) F__law_met gg__law_met hb__law_met sc__law_met rfl (.inl rfl) (hr.mono (by decide)) (fun cdv hr2 => met_gives T hgd hr2) rfl tb rfl (.tail _ (.head _)) (hu_law dis) (LamX.lamS_by (sc := defScope s_law) (by decide +kernel)) rfl (fun _ _ _ _ _ => rfl) (fun _ _ _ _ E _ _ hr => (pe_call F_prime_answer (hr.mono (by decide)) rfl g_prime_answer k_prime_answer b_prime_answer .nil (passes_call (takes_of rfl rfl rfl rfl) (fun _ _ _ _ h => h)) (pa_cons pe_int pa_nil)))) pa_nil)))
      (pss_cons (ps_set (i := 3) sc_law.nd rfl (by first | exact Or.inl rfl | exact Or.inr rfl) (pe_op op_cat (pe_op op_rep (pe_lst (pa_cons (pe_tup (pa_cons pe_str pa_nil)) pa_nil)) pe_int) (pe_lst (pa_cons (pe_tup (pa_cons pe_str (pa_cons pe_str (pa_cons pe_str pa_nil)))) (pa_cons (pe_tup (pa_cons pe_str (pa_cons pe_str (pa_cons pe_str pa_nil)))) pa_nil)))))
      (pss_one (ps_ret (pe_and (pe_cmpR (op_eqD hu64) (pv 2) (pv 3) (nomark _)) (pe_and (pe_cmpR op_eq (pe_glob rfl hc_MOST ⟨_, rfl⟩) (pe_op op_pow pe_int pe_int) (nomark _)) (pe_one (pe_cmpR (op_eqD hu64) (pe_met (k := 4) F__law_met gg__law_met hb__law_met sc__law_met rfl (.inl rfl) (hr.mono (by decide)) (fun cdv hr2 => met_gives T hgd hr2) rfl tb rfl (.tail _ (.head _)) (hu_law dis) (LamX.lamS_by (sc := defScope s_law) (by decide +kernel)) rfl (fun _ _ _ _ _ => rfl) (fun _ _ _ _ E _ _ hr => (pe_call F_order_of (hr.mono (by decide)) rfl g_order_of k_order_of b_order_of .nil (passes_call (takes_of rfl rfl rfl rfl) (fun _ _ _ _ h => h)) (pa_cons pe_int (pa_cons pe_int pa_nil))))) (pe_tup (pa_cons pe_str (pa_cons pe_str pa_nil))) (nomark _))))))))))))))))
/-! ### the head: facts by names, and what the imports bring -/
def bulOk (K : PySem.W.Frag) (bl : List (Str × String)) : Bool := bl.all fun q => decide (PySem.W.nsIn K mainGlobals q.1 = some (some (.builtin q.2)))
theorem bul_ok {K : PySem.W.Frag} {h : Heap} {mg : Str → Option Value} {bl : List (Str × String)} (X : K.In h) (G : h.Ns mainGlobals mg) (c : bulOk K bl = true) (i : Nat) {q : Str × String} (hi : bl[i]? = some q := by rfl) : mg q.1 = some (.builtin q.2) :=
  PySem.W.mg_of X G (of_decide_eq_true (List.all_eq_true.mp c q (List.mem_of_getElem? hi)))
def d_is_int : He.DefD := ⟨("is_int", none), "is_int", "is_int", defArgs s_is_int, defBody s_is_int, defScope s_is_int, [], []⟩
def d_has_no_parts : He.DefD := ⟨("has_no_parts", none), "has_no_parts", "has_no_parts", defArgs s_has_no_parts, defBody s_has_no_parts, defScope s_has_no_parts, [], []⟩
def d_power_modulo : He.DefD := ⟨("power_modulo", none), "power_modulo", "power_modulo", defArgs s_power_modulo, defBody s_power_modulo, defScope s_power_modulo, [], []⟩
def d_integer_power : He.DefD := ⟨("integer_power", none), "integer_power", "integer_power", defArgs s_integer_power, defBody s_integer_power, defScope s_integer_power, [], []⟩
def d_least_divisor : He.DefD := ⟨("least_divisor", none), "least_divisor", "least_divisor", defArgs s_least_divisor, defBody s_least_divisor, defScope s_least_divisor, [], []⟩
def d_prime_powers : He.DefD := ⟨("prime_powers", none), "prime_powers", "prime_powers", defArgs s_prime_powers, defBody s_prime_powers, defScope s_prime_powers, [], []⟩
def d_is_below : He.DefD := ⟨("is_below", none), "is_below", "is_below", defArgs s_is_below, defBody s_is_below, defScope s_is_below, [], []⟩
def d_check_between : He.DefD := ⟨("check_between", none), "check_between", "check_between", defArgs s_check_between, defBody s_check_between, defScope s_check_between, [], []⟩
def d_least_maker_by : He.DefD := ⟨("least_maker_by", none), "least_maker_by", "least_maker_by", defArgs s_least_maker_by, defBody s_least_maker_by, defScope s_least_maker_by, [], []⟩
def d_count_units : He.DefD := ⟨("count_units", none), "count_units", "count_units", defArgs s_count_units, defBody s_count_units, defScope s_count_units, [], []⟩
def d_check_integer : He.DefD := ⟨("check_integer", none), "check_integer", "check_integer", defArgs s_check_integer, defBody s_check_integer, defScope s_check_integer, [], []⟩
def d_is_prime : He.DefD := ⟨("is_prime", none), "is_prime", "is_prime", defArgs s_is_prime, defBody s_is_prime, defScope s_is_prime, [], []⟩
def d_next_prime : He.DefD := ⟨("next_prime", none), "next_prime", "next_prime", defArgs s_next_prime, defBody s_next_prime, defScope s_next_prime, [], []⟩
def d_prime_paper : He.DefD := ⟨("prime_paper", none), "prime_paper", "prime_paper", defArgs s_prime_paper, defBody s_prime_paper, defScope s_prime_paper, [], []⟩
def d_divisors : He.DefD := ⟨("divisors", none), "divisors", "divisors", defArgs s_divisors, defBody s_divisors, defScope s_divisors, [], []⟩
def d_units_number : He.DefD := ⟨("units_number", none), "units_number", "units_number", defArgs s_units_number, defBody s_units_number, defScope s_units_number, [], []⟩
def d_least_maker : He.DefD := ⟨("least_maker", none), "least_maker", "least_maker", defArgs s_least_maker, defBody s_least_maker, defScope s_least_maker, [], []⟩
def d_prime_answer : He.DefD := ⟨("prime_answer", none), "prime_answer", "prime_answer", defArgs s_prime_answer, defBody s_prime_answer, defScope s_prime_answer, [], []⟩
def d_prime_parts_answer : He.DefD := ⟨("prime_parts_answer", none), "prime_parts_answer", "prime_parts_answer", defArgs s_prime_parts_answer, defBody s_prime_parts_answer, defScope s_prime_parts_answer, [], []⟩
def d_order_of : He.DefD := ⟨("order_of", none), "order_of", "order_of", defArgs s_order_of, defBody s_order_of, defScope s_order_of, [], []⟩
def d__law_dice : He.DefD := ⟨("_law_dice", none), "_law_dice", "_law_dice", defArgs s__law_dice, defBody s__law_dice, defScope s__law_dice, [], []⟩
def d__law_roll : He.DefD := ⟨("_law_roll", none), "_law_roll", "_law_roll", defArgs s__law_roll, defBody s__law_roll, defScope s__law_roll, [], []⟩
def d__law_pick : He.DefD := ⟨("_law_pick", none), "_law_pick", "_law_pick", defArgs s__law_pick, defBody s__law_pick, defScope s__law_pick, [], []⟩
def d__law_right : He.DefD := ⟨("_law_right", none), "_law_right", "_law_right", defArgs s__law_right, defBody s__law_right, defScope s__law_right, [], []⟩
def d_law : He.DefD := ⟨("law", none), "law", "law", defArgs s_law, defBody s_law, defScope s_law, [], []⟩
def bul : List (Str × String) := [("gcd", "math.gcd")]

def d__law_met : He.DefD := ⟨("_law_met", none), "_law_met", "_law_met", defArgs s__law_met, defBody s__law_met, defScope s__law_met, [], []⟩
abbrev s_InvalidNumber_init : Stmt := (clsBody (top 4)).getD 0 (.Pass ⟨0, 0, 0, 0⟩)
def d_InvalidNumber_init : He.DefD := ⟨("InvalidNumber", some "__init__"), "__init__", "InvalidNumber.__init__", defArgs s_InvalidNumber_init, defBody s_InvalidNumber_init, defScope s_InvalidNumber_init, [], []⟩
def fnl : List He.DefD := [d_is_int, d_has_no_parts, d_power_modulo, d_integer_power, d_least_divisor, d_prime_powers, d_is_below, d_check_between, d_least_maker_by, d_count_units, d_check_integer, d_is_prime, d_next_prime, d_prime_paper, d_divisors, d_units_number, d_least_maker, d_prime_answer, d_prime_parts_answer, d_order_of, d__law_dice, d__law_roll, d__law_pick, d__law_right, d_law, d__law_met, d_InvalidNumber_init]
def fal : List He.Fa := [.glo "is_int", .glo "has_no_parts", .glo "power_modulo", .glo "integer_power", .glo "least_divisor", .glo "prime_powers", .glo "is_below", .glo "check_between", .glo "least_maker_by", .glo "count_units", .glo "check_integer", .glo "is_prime", .glo "next_prime", .glo "prime_paper", .glo "divisors", .glo "units_number", .glo "least_maker", .glo "prime_answer", .glo "prime_parts_answer", .glo "order_of", .glo "_law_dice", .glo "_law_roll", .glo "_law_pick", .glo "_law_right", .glo "law", .glo "_law_met", .glo "InvalidNumber", .glo "InvalidOperation", .int "SIXTY_DIGITS" 1000000000000000000000000000000000000000000000000000000000000, .int "MOST" 100000000, .free "abs", .free "bool", .free "int", .free "isinstance", .free "len", .free "max", .free "min", .free "range", .free "repr", .free "sorted", .free "tuple", .exc "InvalidOperation", .exm "InvalidNumber" "InvalidNumber" true, .exm "InvalidNumber" "InvalidOperation" false, .exm "InvalidOperation" "InvalidNumber" false, .exm "InvalidOperation" "InvalidOperation" true]
def exX (K : PySem.W.Frag) : Bool := bulOk K bul && exiB K "InvalidNumber" "given" bm_IndexError "IndexError.__new__" && decide ((He.cT K ("_law_right", none)).2 ≠ (He.cT K ("law", none)).2)
def loose0 : List PySem.Str := ["PaperError", "InvalidOperation", "InvalidNumber", "is_int", "is_below", "has_no_parts", "power_modulo", "integer_power", "SIXTY_DIGITS", "least_divisor", "check_integer", "check_between", "MOST", "is_prime", "next_prime", "prime_powers", "least_maker_by", "prime_paper", "prime_answer", "prime_parts_answer", "divisors", "count_units", "units_number", "order_of", "least_maker", "_law_dice", "_law_roll", "_law_pick", "_law_met", "_law_right"]
def looseL : List PySem.Str := loose0
abbrev RR : PySem.W.OpenRow := PySem.W.OpenLaw.row PySem.Challenge.rw_zeroorone_k07_errors_of_primes
abbrev hk : PySem.W.Hook := He.hookX 5 fal fnl [] tfs exX
def obz (s : PySem.W.SharedT) : He.AlX := He.obsX 5 fal fnl [] tfs exX (HandSHeadRun.getT s)
theorem obz_eq (s : PySem.W.SharedT) : obz s = hk.obs s.abs := He.obsX_eq (HandSHeadRun.getT_eq s)
theorem run (w : World) : HandSHeadRun.RunEqI RR (PySem.W.view RR.prog [0, 36]) hk obz 4000 looseL w := by
  unfold HandSHeadRun.RunEqI
  kernel_rfl
theorem tx_of {K : PySem.W.Frag} {h : Heap} {mg : Str → Option Value} {w : World} (X : K.In h) (G : h.Ns mainGlobals mg) (S : He.SaysX fal fnl [] tfs exX w h K) : Tx K mg := by
  have c := S.t.d
  have e := S.more
  unfold exX at e
  simp only [Bool.and_eq_true, decide_eq_true_eq] at e
  obtain ⟨⟨x0, x1⟩, x2⟩ := e
  exact {
    f_is_int := c.def_ 0 (d := d_is_int) rfl
    g_is_int := He.glo_ok X G (c.fact 0 (f := .glo "is_int") rfl)
    f_has_no_parts := c.def_ 1 (d := d_has_no_parts) rfl
    g_has_no_parts := He.glo_ok X G (c.fact 1 (f := .glo "has_no_parts") rfl)
    f_power_modulo := c.def_ 2 (d := d_power_modulo) rfl
    g_power_modulo := He.glo_ok X G (c.fact 2 (f := .glo "power_modulo") rfl)
    f_integer_power := c.def_ 3 (d := d_integer_power) rfl
    g_integer_power := He.glo_ok X G (c.fact 3 (f := .glo "integer_power") rfl)
    f_least_divisor := c.def_ 4 (d := d_least_divisor) rfl
    g_least_divisor := He.glo_ok X G (c.fact 4 (f := .glo "least_divisor") rfl)
    f_prime_powers := c.def_ 5 (d := d_prime_powers) rfl
    g_prime_powers := He.glo_ok X G (c.fact 5 (f := .glo "prime_powers") rfl)
    f_is_below := c.def_ 6 (d := d_is_below) rfl
    g_is_below := He.glo_ok X G (c.fact 6 (f := .glo "is_below") rfl)
    f_check_between := c.def_ 7 (d := d_check_between) rfl
    g_check_between := He.glo_ok X G (c.fact 7 (f := .glo "check_between") rfl)
    f_least_maker_by := c.def_ 8 (d := d_least_maker_by) rfl
    g_least_maker_by := He.glo_ok X G (c.fact 8 (f := .glo "least_maker_by") rfl)
    f_count_units := c.def_ 9 (d := d_count_units) rfl
    g_count_units := He.glo_ok X G (c.fact 9 (f := .glo "count_units") rfl)
    f_check_integer := c.def_ 10 (d := d_check_integer) rfl
    g_check_integer := He.glo_ok X G (c.fact 10 (f := .glo "check_integer") rfl)
    f_is_prime := c.def_ 11 (d := d_is_prime) rfl
    g_is_prime := He.glo_ok X G (c.fact 11 (f := .glo "is_prime") rfl)
    f_next_prime := c.def_ 12 (d := d_next_prime) rfl
    g_next_prime := He.glo_ok X G (c.fact 12 (f := .glo "next_prime") rfl)
    f_prime_paper := c.def_ 13 (d := d_prime_paper) rfl
    g_prime_paper := He.glo_ok X G (c.fact 13 (f := .glo "prime_paper") rfl)
    f_divisors := c.def_ 14 (d := d_divisors) rfl
    g_divisors := He.glo_ok X G (c.fact 14 (f := .glo "divisors") rfl)
    f_units_number := c.def_ 15 (d := d_units_number) rfl
    g_units_number := He.glo_ok X G (c.fact 15 (f := .glo "units_number") rfl)
    f_least_maker := c.def_ 16 (d := d_least_maker) rfl
    g_least_maker := He.glo_ok X G (c.fact 16 (f := .glo "least_maker") rfl)
    f_prime_answer := c.def_ 17 (d := d_prime_answer) rfl
    g_prime_answer := He.glo_ok X G (c.fact 17 (f := .glo "prime_answer") rfl)
    f_prime_parts_answer := c.def_ 18 (d := d_prime_parts_answer) rfl
    g_prime_parts_answer := He.glo_ok X G (c.fact 18 (f := .glo "prime_parts_answer") rfl)
    f_order_of := c.def_ 19 (d := d_order_of) rfl
    g_order_of := He.glo_ok X G (c.fact 19 (f := .glo "order_of") rfl)
    f__law_dice := c.def_ 20 (d := d__law_dice) rfl
    g__law_dice := He.glo_ok X G (c.fact 20 (f := .glo "_law_dice") rfl)
    f__law_roll := c.def_ 21 (d := d__law_roll) rfl
    g__law_roll := He.glo_ok X G (c.fact 21 (f := .glo "_law_roll") rfl)
    f__law_pick := c.def_ 22 (d := d__law_pick) rfl
    g__law_pick := He.glo_ok X G (c.fact 22 (f := .glo "_law_pick") rfl)
    f__law_right := c.def_ 23 (d := d__law_right) rfl
    g__law_right := He.glo_ok X G (c.fact 23 (f := .glo "_law_right") rfl)
    f_law := c.def_ 24 (d := d_law) rfl
    g_law := He.glo_ok X G (c.fact 24 (f := .glo "law") rfl)
    f__law_met := c.def_ 25 (d := d__law_met) rfl
    g__law_met := He.glo_ok X G (c.fact 25 (f := .glo "_law_met") rfl)
    c_SIXTY_DIGITS := He.int_ok X G (c.fact 28 (f := .int "SIXTY_DIGITS" 1000000000000000000000000000000000000000000000000000000000000) rfl)
    c_MOST := He.int_ok X G (c.fact 29 (f := .int "MOST" 100000000) rfl)
    n_abs := He.free_ok X G (c.fact 30 (f := .free "abs") rfl)
    n_bool := He.free_ok X G (c.fact 31 (f := .free "bool") rfl)
    n_int := He.free_ok X G (c.fact 32 (f := .free "int") rfl)
    n_isinstance := He.free_ok X G (c.fact 33 (f := .free "isinstance") rfl)
    n_len := He.free_ok X G (c.fact 34 (f := .free "len") rfl)
    n_max := He.free_ok X G (c.fact 35 (f := .free "max") rfl)
    n_min := He.free_ok X G (c.fact 36 (f := .free "min") rfl)
    n_range := He.free_ok X G (c.fact 37 (f := .free "range") rfl)
    n_repr := He.free_ok X G (c.fact 38 (f := .free "repr") rfl)
    n_sorted := He.free_ok X G (c.fact 39 (f := .free "sorted") rfl)
    n_tuple := He.free_ok X G (c.fact 40 (f := .free "tuple") rfl)
    b_gcd := bul_ok X G x0 0
    x_InvalidNumber := exi_ok (He.glo_ok X G (c.fact 26 (f := .glo "InvalidNumber") rfl)) x1 (c.def_ 26 (d := d_InvalidNumber_init) rfl) rfl rfl rfl
    e_InvalidOperation := ⟨(He.glo_ok X G (c.fact 27 (f := .glo "InvalidOperation") rfl)), He.exc_ok (c.fact 41 (f := .exc "InvalidOperation") rfl)⟩
    m_InvalidNumber_InvalidNumber := He.exm_ok (c.fact 42 (f := .exm "InvalidNumber" "InvalidNumber" true) rfl)
    m_InvalidNumber_InvalidOperation := He.exm_ok (c.fact 43 (f := .exm "InvalidNumber" "InvalidOperation" false) rfl)
    m_InvalidOperation_InvalidNumber := He.exm_ok (c.fact 44 (f := .exm "InvalidOperation" "InvalidNumber" false) rfl)
    m_InvalidOperation_InvalidOperation := He.exm_ok (c.fact 45 (f := .exm "InvalidOperation" "InvalidOperation" true) rfl)
    dis := x2 }
theorem tabs0 {K : PySem.W.Frag} {H : Hp} (h : ∀ p ∈ tfs.map (He.cT K), H p.2 = some (.tbl #[])) : LamX.Tabs (Ts K) H := by
  intro p hp
  simp only [Ts, List.mem_cons, List.not_mem_nil, or_false] at hp
  rcases hp with rfl | rfl
  · exact LamX.TabS.nil (h _ (List.mem_map.mpr ⟨("_law_right", none), by simp [tfs], rfl⟩))
  · exact LamX.TabS.nil (h _ (List.mem_map.mpr ⟨("law", none), by simp [tfs], rfl⟩))
end L2.Z
open PySem PySem.W PySem.Calls PyProof.Rows
theorem PySem.Challenge.cw_zeroorone_k07_errors_of_primes_holds : PySem.Challenge.rw_zeroorone_k07_errors_of_primes.Holds := by
  w_on; o_law
  refine HandSHeadRun.head_imp (r := (OpenLaw.row PySem.Challenge.rw_zeroorone_k07_errors_of_primes)) (q := view (OpenLaw.row PySem.Challenge.rw_zeroorone_k07_errors_of_primes).prog [0, 36]) (H := L2.Z.hk) (ob := L2.Z.obz) (loose := L2.Z.looseL) (d := HandSHeadRun.topDef (OpenLaw.row PySem.Challenge.rw_zeroorone_k07_errors_of_primes).prog 36) (kwd := []) L2.Z.obz_eq
    L2.Z.run (by kernel_rfl) (by kernel_rfl) (by kernel_rfl) (by rfl) (by first | assumption | decide +kernel) (by decide +kernel) ⟨rfl, rfl, rfl, rfl, rfl, by decide +kernel⟩ ?hw ?hc
  case hw => w_witness2
  case hc =>
    refine L2.Z.walk_ofG (l := PySem.Challenge.rw_zeroorone_k07_errors_of_primes) (n := 63) (k := 8) (x := "script") (CX := fun _ => L2.CX0) rfl (by decide) (by kernel_rfl) ⟨rfl, by decide, by decide⟩ ?F (fun _ _ _ _ _ z => z)
    intro w mg fa h Y G hmg0
    obtain ⟨K, KX, S⟩ := Y
    have T := L2.Z.tx_of KX G S
    have hmg : mg ("law" : PySem.Str) = some (.ref fa) := by
      have e : (HandSHeadRun.topDef (OpenLaw.row PySem.Challenge.rw_zeroorone_k07_errors_of_primes).prog 36).name = ("law" : PySem.Str) := by kernel_rfl
      rw [← e]
      exact hmg0
    have e := hmg.symm.trans T.g_law
    cases e
    obtain ⟨fd, F⟩ := T.f_law
    have hb := L2.FunD.bindsA (ps := ["script"]) F fun _ _ _ _ _ _ us hl => match us, hl with | [_], _ => rfl
    refine ⟨K, KX, fd, L2.Z.tfs.map (He.cT K), L2.Z.sp_law K, fun p hp => ?_, fun p hp => ?_, fun p hp => ?_, fun s v => hb s [v] rfl, fun H a ns hl _ hT hS => ⟨a, ns, rfl, hS, hl, L2.Z.tabs0 hT, fun _ => rfl⟩, fun base _ _ TB => L2.Z.okF_law T F fun p hp => TB _ (List.mem_map_of_mem hp)⟩
    · obtain ⟨q, hq, rfl⟩ := List.mem_map.mp hp
      exact S.empty q hq
    · obtain ⟨q, hq, rfl⟩ := List.mem_map.mp hp
      exact S.out q hq
    · obtain ⟨q, hq, rfl⟩ := List.mem_map.mp hp
      exact PySem.W.codeHd_of_K KX (S.hd q hq)
