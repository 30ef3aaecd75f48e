import PyProof.Rows.All
import Wide.All
import OpenK.AllK
import Wide.FinOn
import HandS.ForMost
import HandS.Wide
import HandS.Gcd
import HandS.More
import HandS.IsInst
import HandS.Defaults
import HandS.SortInts
import HandS.Zip
import HandS.TupAny
import HandS.Conv
import HandS.Style
import HandS.RaiseMore
import HandS.Head0
import HandS.Head1
import HandS.Head2
import HandS.Head3
import HandS.HeadEnd
import HandS.HeadHook1
import HandS.HeadHook2
import HandS.Small
import KE.GoesEnum
import KE.KExcInit
import HandS.ForSpec
import HandS.ExcOwn
import HandS.Lambda
import HandS.EndTab
import HandS.HeadHook4
import HandS.HeadWalk
import PyProof.ExcBaseAll.IndexError
import PyProof.ExcBaseAll.RuntimeError
import PyProof.ExcBaseAll.OverflowError
import PyProof.ExcBaseAll.ArithmeticError
import PyProof.ExcBaseAll.LookupError
import HandS.TryMany
import PyProof.ReprRoads
import HandS.EndBits
import HandS.TupMul
import HandS.SetBool
import HandS.Strs
import KE.GoesZip
import PyProof.Rows.AssignMoreSeq
import HandS.Rev
import KE.KEqDict
import HandS.DictComp
import PySem.Challenge.RW_zeroorone_k37_errors_of_real_roots
set_option Elab.async false
set_option linter.all false
set_option maxRecDepth 100000
set_option maxHeartbeats 2000000
namespace L2.Z
open PySem PySem.Spec PyProof.Rows
abbrev rAdd : R2 := rI0 fun i j => .int (i + j)
abbrev rSub : R2 := rI0 fun i j => .int (i - j)
abbrev rModU : R2 := rI (fun _ j => 0 < j) fun i j => .int (i % j)
abbrev rDivU : R2 := rI CDivW fun i j => .int (i / j)
abbrev rPowU : R2 := rI CPow fun i j => .int (i ^ j.toNat)
abbrev rMulU : R2 := rI (fun i j => CMul i j ∨ CMulW i j) fun i j => .int (i * j)
abbrev rNeg : V → Hp → VK → Prop := rU fun i => .int (-i)
/-- // by any divisor but 0 below 2 ^ 9000 -/
def CDivZ (_ j : Int) : Prop := j ≠ 0 ∧ j.natAbs.log2 < 9000
abbrev rDivZ : R2 := rI CDivZ fun i j => .int (i.fdiv j)
theorem op_fdivZ {X : Cx} : OpR X (binaryOp .FloorDiv) rDivZ := opI fun i j _ _ _ _ _ hc q => floordiv_int hc.1 q (.inl (PyProof.noPylong_of_log2 hc.2))
abbrev rStrI : List V → Hp → VK → Prop := fun xs H Q => ∃ i : Int, xs = [.int i] ∧ i.natAbs.log2 < 1920 ∧ Q (.str (toString i)) H
/-- repr of plain values -/
def tTru (K : PySem.W.Frag) (te : TE) : TT := fun σ H Qt => te σ H fun x H1 => ∃ k, TruV K x H1 k ∧ Qt k H1
theorem pt_tru {X : Cx} {K : PySem.W.Frag} {a : PySem.Expr} {ta : TE} (hk : X.K = K) (h : PE X a ta) (he : ∀ whole : PySem.Sem PySem.Value, PySem.isTrue a X.env whole = do
          let v ← whole
          PySem.standAt a.pos
          PySem.holding [v] (PySem.truthy v)) : PT X a (tTru K ta) := by
  subst hk
  exact pt_truth h he
def rMinT : List V → Hp → VK → Prop := fun vs H Q => ∃ (a : Addr) (ns : List Int), vs = [.ref a] ∧ H a = some (.tup (ns.map V.int)) ∧ 0 < ns.length ∧ ∀ m, m ∈ ns → (∀ y ∈ ns, m ≤ y) → Q (.int m) H
theorem vals_ints : ∀ {ns : List Int} {its : List Value}, Vals (ns.map V.int) its → its.length = ns.length ∧ ∀ (i : Nat) (v : Value), its[i]? = some v → ∃ t, v = Value.int (ns.getD i 0) t := by
  intro ns
  induction ns with
  | nil => intro its h; cases h; exact ⟨rfl, fun i v e => by simp at e⟩
  | cons n r ih =>
    intro its h
    cases h with
    | cons h1 h2 =>
      obtain ⟨l, g⟩ := ih h2
      refine ⟨by simp [l], fun i v e => ?_⟩
      cases i with
      | zero =>
        simp only [List.getElem?_cons_zero, Option.some.injEq] at e
        subst e
        obtain ⟨t, e⟩ := h1
        exact ⟨t, by simpa using e⟩
      | succ i =>
        rw [List.getElem?_cons_succ] at e
        obtain ⟨t, e⟩ := g i v e
        exact ⟨t, by simpa using e⟩
theorem cr_minT {X : Cx} (hc : X.calm = true) : CallR X (.builtin "min") rMinT := by
  intro pins s σ H xs us Q I r h
  obtain ⟨a, ns, rfl, hT, hn, hq⟩ := h
  obtain ⟨u, rfl, r1⟩ := vals1 r
  cases (show u = Value.ref a from r1)
  obtain ⟨its, hv, hI, _⟩ := I.tuple (.inl (.inl hT))
  obtain ⟨hl, hg⟩ := vals_ints hv
  refine PySem.call_min_walk ?_
  refine PySem.wpAny_pyIter_tuple (items := its.toArray) ?_ ?_
  · exact hI
  · obtain ⟨o, ho, hcl, hdt⟩ := hI
    have hlt : a < s.heap.objs.size := by
      refine Nat.lt_of_not_le fun c => ?_
      have : s.heap.get? a = none := by
        simp [PySem.Heap.get?, c]
      rw [ho] at this
      cases this
    have hne : a ≠ s.heap.objs.size := Nat.ne_of_lt hlt
    have push_old : ∀ (b : Addr) (u x : Obj), s.heap.get? b = some u → (s.heap.push x).get? b = some u := fun b u x hb => by
      have hlb : b < s.heap.objs.size := by
        refine Nat.lt_of_not_le fun c => ?_
        have : s.heap.get? b = none := by simp [PySem.Heap.get?, c]
        rw [hb] at this
        cases this
      simp only [PySem.Heap.get?, PySem.Heap.push] at hb ⊢
      rw [Array.getElem?_push, if_neg (Nat.ne_of_lt hlb)]
      exact hb
    refine ⟨_, _, _, _, _, _, _, rfl, PySem.Walks.tuple ?_ s.heap.objs.size a hne its.toArray, ⟨⟨{ cls := Value.type "tuple_iterator", data := Data.fields #[Value.ref a, Value.int 0 0] }, ?_, rfl, rfl⟩, ⟨o, push_old a o _ ho, hcl, hdt⟩⟩, ?_, ?_, PySem.CmpOf.ints_lt (fun i => ns.getD i 0) (fun i v e => hg i v (by simpa using e)), fun v h' tk hP hk => ?_⟩
    · exact (I.ok.hd hc)
    · simp [PySem.Heap.get?, PySem.Heap.push]
    · intro b hb
      have : (s.heap.push { cls := Value.type "tuple_iterator", data := Data.fields #[Value.ref a, Value.int 0 0] }).objs.size = s.heap.objs.size + 1 := by simp [PySem.Heap.push]
      show b < (s.heap.push { cls := Value.type "tuple_iterator", data := Data.fields #[Value.ref a, Value.int 0 0] }).objs.size
      rw [this]
      simp only [List.mem_cons, List.not_mem_nil, or_false] at hb
      rcases hb with rfl | rfl
      · exact Nat.lt_succ_self _
      · exact Nat.lt_succ_of_lt hlt
    · simp only [List.size_toArray]; omega
    · obtain ⟨b1, b2⟩ := PySem.argBest_lt (fun i => ns.getD i 0) (its.toArray.size - 1)
      generalize argBest (fun i j => decide (ns.getD i 0 < ns.getD j 0)) (its.toArray.size - 1) = k at *
      simp only [List.size_toArray] at b1 b2
      obtain ⟨t, rfl⟩ := hg k v (by simpa using hP)
      have hk1 : k < ns.length := by omega
      refine ⟨.int (ns.getD k 0), H, I.kept (h' := h') (t' := tk) (fun b u hb => hk b u ?_ (push_old b u _ hb)), ⟨t, rfl⟩, hq _ ?_ fun y hy => ?_⟩
      · intro c
        rw [List.mem_singleton] at c
        subst c
        simp [PySem.Heap.get?] at hb
      · rw [List.getD_eq_getElem?_getD, List.getElem?_eq_getElem hk1]
        exact List.getElem_mem hk1
      · obtain ⟨j, hj, rfl⟩ := List.getElem_of_mem hy
        have := b2 j (by omega)
        rw [List.getD_eq_getElem?_getD (i := j), List.getElem?_eq_getElem hj] at this
        exact this
def rSortedDI : List V → Hp → VK → Prop := fun xs H Q => ∃ (a : Addr) (kvs : List (Key × V)) (ks : List Int), xs = [.ref a] ∧ Rd H a (.dK kvs) ∧ kvs.map (·.1) = ks.map Sum.inl ∧ ks.length < 64 ∧ ∀ (ys : List Int) (p : Addr), ys.Perm ks → ys.Pairwise (· ≤ ·) → H p = none → Q (.ref p) (upd H p (.lst (ys.map V.int)))
theorem cr_sortedDI {X : Cx} (hc : X.calm = true) : CallR X (.builtin "sorted") rSortedDI := call_sortedDI hc
def rReprU : List V → Hp → VK → Prop := fun xs H Q => (∃ i : Int, xs = [.int i] ∧ i.natAbs.log2 < 1920 ∧ Q (.str (toString i)) H) ∨ (∃ b : Bool, xs = [.bl b] ∧ Q (.str (if b then "True" else "False")) H) ∨ (xs = [.non] ∧ Q (.str "None") H)
theorem cr_reprU {X : Cx} : CallR X (.builtin "repr") rReprU := by
  intro pins s σ H xs us Q I r h
  rcases h with h | ⟨b, e, q⟩ | ⟨e, q⟩
  · exact SkE.call_repr_int pins s σ H xs us Q I r h
  · subst e
    obtain ⟨u, e1, r1⟩ := vals1 r
    subst e1
    cases (show u = Value.bool b from r1)
    exact PySem.P.repr_of_bool ⟨.str _, H, I.tok _, ⟨_, rfl⟩, q⟩
  · subst e
    obtain ⟨u, e1, r1⟩ := vals1 r
    subst e1
    cases (show u = Value.none from r1)
    exact PySem.P.repr_of_none ⟨.str _, H, I.tok _, ⟨_, rfl⟩, q⟩
abbrev rLtI : R2 := rI0 fun i j => .bl (decide (i < j))
abbrev rLeI : R2 := rI0 fun i j => .bl (decide (i ≤ j))
abbrev rGtI : R2 := rI0 fun i j => .bl (decide (j < i))
abbrev rGeI : R2 := rI0 fun i j => .bl (decide (j ≤ i))
abbrev rLenU (K : PySem.W.Frag) : List V → Hp → VK → Prop := fun xs H Q => ∃ p ys, xs = [.ref p] ∧ (SqL K H p ys ∨ SqT K H p ys) ∧ Q (.int ys.length) H
abbrev rAbs : List V → Hp → VK → Prop := fun xs H Q => ∃ i : Int, xs = [.int i] ∧ Q (.int (if i < 0 then -i else i)) H
abbrev rMax2 : List V → Hp → VK → Prop := fun xs H Q => ∃ i j : Int, xs = [.int i, .int j] ∧ Q (.int (if j > i then j else i)) H
abbrev rMin2 : List V → Hp → VK → Prop := fun xs H Q => ∃ i j : Int, xs = [.int i, .int j] ∧ Q (.int (if j < i then j else i)) H
abbrev rInt1 : List V → Hp → VK → Prop := fun xs H Q => (∃ i, xs = [.int i] ∧ Q (.int i) H) ∨ ∃ k, xs = [.bl k] ∧ Q (.int (if k then 1 else 0)) H
abbrev rTupOf (K : PySem.W.Frag) : List V → Hp → VK → Prop := fun xs H Q => ∃ p ys, xs = [.ref p] ∧ ((SqL K H p ys ∧ ∀ l, H l = none → Q (.ref l) (upd H l (.tup ys))) ∨ (SqT K H p ys ∧ Q (.ref p) H))
abbrev rListOf (K : PySem.W.Frag) : List V → Hp → VK → Prop := fun xs H Q => ∃ p ys, xs = [.ref p] ∧ (SqL K H p ys ∨ SqT K H p ys) ∧ ∀ l, H l = none → Q (.ref l) (upd H l (.lst ys))
abbrev rIxA (K : PySem.W.Frag) : R2 := fun x y H Q => rIxL K x y H Q ∨ rIxT K x y H Q
theorem ix_lt {X : Cx} : IxR X (rIxA X.K) := ix_list.or ix_tup
theorem op_mulU {X : Cx} : OpR X (binaryOp .Mult) rMulU := opI fun _ _ _ _ _ _ _ hc q => mul_int q (hc.elim CMul.ok CMulW.ok)
theorem hu64_of {A : Around} {k : Nat} (hr : Room k A) : A.units + 64 < cLine := by have := hr.un; omega
def Okk (P : Program) (w : World) (K : PySem.W.Frag) (mg : Str → Option Value) (base : Heap) (k : Nat) (x : Str) (ps : List Str) (sp : Sp) : Prop :=
  ∃ fd, FnOk P w K mg base CX0 k (He.ga K x) fd ps sp ∧ Binds K fd ps [] ∧ mg x = some (.ref (He.ga K x)) ∧ PySem.W.keepIn K (.ref (He.ga K x)) = true
def LcW (J : It) (H1 : Hp) (g : TG) (tt : TT) (te : TE) (vs : List Nat) (σ : St) (Q : VK) : Prop := tLc (fun _ _ R => R J H1) g tt te vs σ H1 Q
def ForW (J : It) (H1 : Hp) (g : TG) (tb : TS) (D : Ends) (σ : St) : Prop := tFor (fun _ _ R => R J H1) g tb D σ H1
section
variable {σ : St} {H : Hp} {Q : VK} {v x y : V} {ta tb tc te : TE} {r r' : R2} {t u : TT} {n : Nat} {D : Ends} {s s' : TS} {g : TG} {K : PySem.W.Frag} {tl : TA} {QA : List V → Hp → Prop} {QT : Bool → Hp → Prop}
theorem z_var0 : tVar 0 (some v :: σ) H Q = Q v H := propext ⟨fun ⟨_, h, q⟩ => by cases h; exact q, fun q => ⟨_, rfl, q⟩⟩
theorem z_varS {o : Option V} : tVar (n + 1) (o :: σ) H Q = tVar n σ H Q := rfl
theorem z_C : tC v σ H Q = Q v H := rfl
theorem z_op : tOp r ta tb σ H Q = ta σ H fun x H1 => tb σ H1 fun y H2 => r x y H2 Q := rfl
theorem z_un {f : V → Hp → VK → Prop} : tUn f ta σ H Q = ta σ H fun x H1 => f x H1 Q := rfl
theorem z_I0 {f : Int → Int → V} {i j : Int} : rI0 f (.int i) (.int j) H Q = Q (f i j) H := propext ⟨fun ⟨_, _, e1, e2, q⟩ => by cases e1; cases e2; exact q, fun q => ⟨_, _, rfl, rfl, q⟩⟩
theorem z_I {C : Int → Int → Prop} {f : Int → Int → V} {i j : Int} : rI C f (.int i) (.int j) H Q = (C i j ∧ Q (f i j) H) := propext ⟨fun ⟨_, _, e1, e2, q⟩ => by cases e1; cases e2; exact q, fun q => ⟨_, _, rfl, rfl, q⟩⟩
theorem z_U {f : Int → V} {i : Int} : rU f (.int i) H Q = Q (f i) H := propext ⟨fun ⟨_, e1, q⟩ => by cases e1; exact q, fun q => ⟨_, rfl, q⟩⟩
theorem z_eqI {i j : Int} : rEq (.int i) (.int j) H Q = Q (.bl (decide (i = j))) H := by
  have e : decide (V.int i = V.int j) = decide (i = j) := by simp
  unfold rEq; rw [e]; exact propext ⟨fun h => h.2, fun h => ⟨rfl, h⟩⟩
theorem z_neI {i j : Int} : rNe (.int i) (.int j) H Q = Q (.bl (!decide (i = j))) H := by
  have e : decide (V.int i = V.int j) = decide (i = j) := by simp
  unfold rNe; rw [e]; exact propext ⟨fun h => h.2, fun h => ⟨rfl, h⟩⟩
theorem z_bl {b : Bool} {p : Bool → Prop} : (∃ k, V.bl b = V.bl k ∧ p k) = p b := propext ⟨fun ⟨_, e, q⟩ => by cases e; exact q, fun q => ⟨_, rfl, q⟩⟩
theorem z_test : tTest te σ H QT = te σ H fun x H' => ∃ k, x = .bl k ∧ QT k H' := rfl
theorem z_B : tB te σ H QT = te σ H fun x H' => ∃ k, x = .bl k ∧ QT k H' := rfl
theorem z_and : tAnd t u σ H QT = t σ H fun c H1 => if c = true then u σ H1 QT else QT false H1 := rfl
theorem z_or : tOr t u σ H QT = t σ H fun c H1 => if c = true then QT true H1 else u σ H1 QT := rfl
theorem z_not : tNot t σ H QT = t σ H fun c H1 => QT (!c) H1 := rfl
theorem z_andV : tAndV ta tb σ H Q = ta σ H fun x H1 => ∃ c, x = .bl c ∧ if c = true then tb σ H1 Q else Q (.bl false) H1 := rfl
theorem z_orV : tOrV ta tb σ H Q = ta σ H fun x H1 => ∃ c, x = .bl c ∧ if c = true then Q (.bl true) H1 else tb σ H1 Q := rfl
theorem z_notV : tNotV ta σ H Q = ta σ H fun x H1 => ∃ c, x = .bl c ∧ Q (.bl (!c)) H1 := rfl
theorem z_if : tIf t ta tb σ H Q = t σ H fun c H1 => if c = true then ta σ H1 Q else tb σ H1 Q := rfl
theorem z_ifS : tIfS t s s' D σ H = t σ H fun b H1 => if b = true then s D σ H1 else s' D σ H1 := rfl
theorem z_seq : tSeq s s' D σ H = s { D with nx := s' D } σ H := rfl
theorem z_next : tNext D σ H = D.nx σ H := rfl
theorem z_ret : tRet te D σ H = te σ H D.rt := rfl
theorem z_retN : tRetN D σ H = D.rt .non H := rfl
theorem z_asg : tAsg te g D σ H = te σ H fun x H1 => g x σ H1 D.nx := rfl
theorem z_gname {Qg : St → Hp → Prop} : gName n v σ H Qg = Qg (σ.set n (some v)) H := rfl
theorem z_drop : tDrop te D σ H = te σ H fun _ H1 => D.nx σ H1 := rfl
theorem z_nil : tNil σ H QA = QA [] H := rfl
theorem z_cons : tCons te tl σ H QA = te σ H fun x H1 => tl σ H1 fun xs H2 => QA (x :: xs) H2 := rfl
theorem z_call {sp : Sp} {E : XK} : tCall sp [] E tl σ H Q = tl σ H fun vs H1 => sp vs H1 Q E := by unfold tCall; simp only [List.append_nil]
theorem z_CB {f : List V → Hp → VK → Prop} : tCB f tl σ H Q = tl σ H fun vs H1 => f vs H1 Q := rfl
theorem z_par {i j : Nat} : tPar i j tl D σ H = tl σ H fun vs H1 => ∃ v w, vs = [v, w] ∧ D.nx ((σ.set i (some v)).set j (some w)) H1 := rfl
theorem z_pair {v w : V} {p : V → V → Prop} : (∃ a b, [v, w] = [a, b] ∧ p a b) = p v w := propext ⟨fun ⟨_, _, e, q⟩ => by cases e; exact q, fun q => ⟨_, _, rfl, q⟩⟩
theorem z_aug0 {ti : TIp} {σ' : St} {i : Nat} : tAug i te ti D σ H = ∃ x, σ[i]? = some (some x) ∧ te σ H fun y H1 => ti x y H1 fun z H2 => D.nx (σ.set i (some z)) H2 := rfl
theorem z_ipI {f : Int → Int → Int} {i j : Int} : ipI f (.int i) (.int j) H Q = Q (.int (f i j)) H := propext ⟨fun ⟨_, _, e1, e2, q⟩ => by cases e1; cases e2; exact q, fun q => ⟨_, _, rfl, rfl, q⟩⟩
theorem z_abs {i : Int} : rAbs [.int i] H Q = Q (.int (if i < 0 then -i else i)) H := propext ⟨fun ⟨_, e1, q⟩ => by cases e1; exact q, fun q => ⟨_, rfl, q⟩⟩
theorem z_max {i j : Int} : rMax2 [.int i, .int j] H Q = Q (.int (if j > i then j else i)) H := propext ⟨fun ⟨_, _, e1, q⟩ => by cases e1; exact q, fun q => ⟨_, _, rfl, q⟩⟩
theorem z_min {i j : Int} : rMin2 [.int i, .int j] H Q = Q (.int (if j < i then j else i)) H := propext ⟨fun ⟨_, _, e1, q⟩ => by cases e1; exact q, fun q => ⟨_, _, rfl, q⟩⟩
theorem z_int {i : Int} : rInt1 [.int i] H Q = Q (.int i) H := by
  apply propext
  constructor
  · intro h
    rcases h with ⟨_, e, q⟩ | ⟨_, e, _⟩
    · cases e; exact q
    · cases e
  · intro q
    exact Or.inl ⟨_, rfl, q⟩
theorem z_intB {b : Bool} : rInt1 [.bl b] H Q = Q (.int (if b then 1 else 0)) H := by
  apply propext
  constructor
  · intro h
    rcases h with ⟨_, e, _⟩ | ⟨_, e, q⟩
    · cases e
    · cases e; exact q
  · intro q
    exact Or.inr ⟨_, rfl, q⟩
theorem z_gcd {i j : Int} : rGcd [.int i, .int j] H Q = Q (.int ((Nat.gcd i.natAbs j.natAbs : Nat) : Int)) H := propext ⟨fun ⟨_, _, e, q⟩ => by cases e; exact q, fun q => ⟨_, _, rfl, q⟩⟩
theorem z_tup : tTup tl σ H Q = tl σ H fun xs H1 => xs.length ≤ sizeLine ∧ ∀ p, H1 p = none → Q (.ref p) (upd H1 p (.tup xs)) := rfl
theorem z_lst : tLst tl σ H Q = tl σ H fun xs H1 => xs.length ≤ sizeLine ∧ ∀ p, H1 p = none → Q (.ref p) (upd H1 p (.lst xs)) := rfl
theorem z_chain : tChain r r' ta tb tc σ H Q = ta σ H fun x H1 => tb σ H1 fun y H2 => r x y H2 fun z H3 => ∃ k, z = .bl k ∧ (if k = true then tc σ H3 fun w' H4 => r' y w' H4 Q else Q (.bl false) H3) := rfl
theorem z_bm {T : String} {f : V → List V → Hp → VK → Prop} {to : TE} : tBM K T f to tl σ H Q = to σ H fun x H1 => tyV K T x H1 ∧ tl σ H1 fun xs H2 => f x xs H2 Q := rfl
theorem z_bm0 {T : String} {f : V → List V → Hp → VK → Prop} {to : TE} : tBM0 K T f to σ H Q = to σ H fun x H1 => tyV K T x H1 ∧ f x [] H1 Q := rfl
theorem tyL {p : Addr} {xs : List V} (h : H p = some (.lst xs)) : tyV K "list" (.ref p) H := .inl ⟨rfl, _, .inl (.inl h)⟩
theorem z_gtup {m : Nat} {a : Addr} {gs : TGs} {Qg : St → Hp → Prop} : gTup K m gs (.ref a) σ H Qg = ∃ xs, SqT K H a xs ∧ xs.length = m ∧ gs xs σ H Qg := propext ⟨fun ⟨_, xs, e, h⟩ => by cases e; exact ⟨xs, h⟩, fun ⟨xs, h⟩ => ⟨a, xs, rfl, h⟩⟩
theorem z_gcons {gs : TGs} {r : List V} {Qg : St → Hp → Prop} : gCons g gs (v :: r) σ H Qg = g v σ H fun σ' H' => gs r σ' H' Qg := propext ⟨fun ⟨_, _, e, h⟩ => by cases e; exact h, fun h => ⟨v, r, rfl, h⟩⟩
theorem z_gnil {Qg : St → Hp → Prop} : gNil [] σ H Qg = Qg σ H := propext ⟨fun h => h.2, fun h => ⟨rfl, h⟩⟩
theorem z_yes : tYes σ H QT = QT true H := rfl
theorem z_wipe0 : wipe σ [] = σ := rfl
theorem z_wipeS {i : Nat} {is : List Nat} : wipe σ (i :: is) = (wipe σ is).set i none := rfl
theorem z_itup {R : It → Hp → Prop} : iTup K te σ H R = te σ H fun x H1 => ∃ a, x = .ref a ∧ (∃ xs, SqT K H1 a xs) ∧ R (Itt K a) H1 := rfl
theorem z_ilist {R : It → Hp → Prop} : iList K te σ H R = te σ H fun x H1 => ∃ a, x = .ref a ∧ (∃ xs, SqL K H1 a xs) ∧ R (Itl K a) H1 := rfl
theorem z_irng1 {R : It → Hp → Prop} : iRng1 tl σ H R = tl σ H fun vs H1 => ∃ j : Int, vs = [.int j] ∧ -(2 ^ 62) ≤ j ∧ j < 2 ^ 62 ∧ R (Itr 0 j.toNat) H1 := rfl
theorem z_irng2 {R : It → Hp → Prop} : iRng2 tl σ H R = tl σ H fun vs H1 => ∃ i j : Int, vs = [.int i, .int j] ∧ (-(2 ^ 62) ≤ i ∧ i < 2 ^ 62 ∧ -(2 ^ 62) ≤ j ∧ j < 2 ^ 62) ∧ R (Itr i (j - i).toNat) H1 := rfl
theorem z_lc {wi : TI} {vs : List Nat} : tLc wi g t te vs σ H Q = wi σ H fun J H1 => LcW J H1 g t te vs σ Q := rfl
theorem z_for {wi : TI} {tb : TS} : tFor wi g tb D σ H = wi σ H fun J H1 => ForW J H1 g tb D σ := rfl
theorem z_gsub {to ti : TE} {f : TSet} {Qg : St → Hp → Prop} : gSub to ti f v σ H Qg = to σ H fun o H1 => ti σ H1 fun i H2 => f o i v H2 fun H3 => Qg σ H3 := rfl
theorem ixL {p : Addr} {xs : List V} {i : Int} (h : SqL K H p xs) (e : atI xs i = some v) (q : Q v H) : rIxA K (.ref p) (.int i) H Q := .inl ⟨p, xs, i, v, rfl, rfl, h, e, q⟩
theorem ixT {p : Addr} {xs : List V} {i : Int} (h : SqT K H p xs) (e : atI xs i = some v) (q : Q v H) : rIxA K (.ref p) (.int i) H Q := .inr ⟨p, xs, i, v, rfl, rfl, h, e, q⟩
theorem setL {p : Addr} {xs : List V} {i : Int} {j : Nat} {Qh : Hp → Prop} (h : H p = some (.lst xs)) (e : ixN xs.length i = some j) (q : Qh (upd H p (.lst (xs.set j v)))) : rSetL (.ref p) (.int i) v H Qh := ⟨p, xs, i, j, rfl, rfl, h, e, q⟩
theorem lenL {p : Addr} {xs : List V} (h : SqL K H p xs) (q : Q (.int (xs.length : Int)) H) : rLenU K [.ref p] H Q := ⟨p, xs, rfl, .inl h, q⟩
theorem lenT {p : Addr} {xs : List V} (h : SqT K H p xs) (q : Q (.int (xs.length : Int)) H) : rLenU K [.ref p] H Q := ⟨p, xs, rfl, .inr h, q⟩
theorem z_par3 {i j l : Nat} : tPar3 i j l tl D σ H = tl σ H fun vs H1 => ∃ u v w, vs = [u, v, w] ∧ D.nx (((σ.set i (some u)).set j (some v)).set l (some w)) H1 := rfl
theorem z_trip {u v w : V} {p : V → V → V → Prop} : (∃ a b c, [u, v, w] = [a, b, c] ∧ p a b c) = p u v w := propext ⟨fun ⟨_, _, _, e, q⟩ => by cases e; exact q, fun q => ⟨_, _, _, rfl, q⟩⟩
theorem z_rg1 {f : Int → Int → Hp → Prop} : tRg1 te σ H f = te σ H fun x H1 => ∃ n, x = .int n ∧ f 0 n H1 := rfl
theorem z_rg2 {f : Int → Int → Hp → Prop} : tRg2 ta tb σ H f = ta σ H fun x H1 => tb σ H1 fun y H2 => ∃ i j, x = .int i ∧ y = .int j ∧ f i j H2 := rfl
theorem z_ii {i j : Int} {p : Int → Int → Prop} : (∃ a b, V.int i = V.int a ∧ V.int j = V.int b ∧ p a b) = p i j := propext ⟨fun ⟨_, _, e1, e2, q⟩ => by cases e1; cases e2; exact q, fun q => ⟨_, _, rfl, rfl, q⟩⟩
theorem z_i1 {i : Int} {p : Int → Prop} : (∃ a, V.int i = V.int a ∧ p a) = p i := propext ⟨fun ⟨_, e1, q⟩ => by cases e1; exact q, fun q => ⟨_, rfl, q⟩⟩
theorem z_lstrg {f : St → Hp → (Int → Int → Hp → Prop) → Prop} : tLstRg f σ H Q = f σ H fun a b H1 => RgOk a b ∧ ∀ q, H1 q = none → Q (.ref q) (upd H1 q (.lst (rgV a b))) := rfl
theorem z_disp {trs : List (TE × TE)} : tDisp trs σ H Q = ∀ p, H p = none → tPairs trs σ (upd H p (.dK [])) fun ps H2 => H2 p = some (.dK []) ∧ ∃ kvs : List (Key × V), ps = kvs.map (fun kv => (kV kv.1, kv.2)) ∧ kvs.length ≤ 15 ∧ Q (.ref p) (upd H2 p (.dK (mergeK [] kvs))) := rfl
theorem z_tp0 {f : List (V × V) → Hp → Prop} : tPairs [] σ H f = f [] H := rfl
theorem z_tpS {r : List (TE × TE)} {f : List (V × V) → Hp → Prop} : tPairs ((ta, tb) :: r) σ H f = ta σ H fun x H1 => tb σ H1 fun y H2 => tPairs r σ H2 fun ps H3 => f ((x, y) :: ps) H3 := rfl
theorem z_tru : tTru K ta σ H QT = ta σ H fun x H' => ∃ k, TruV K x H' k ∧ QT k H' := rfl
theorem z_din : tDIn ta tb σ H Q = ta σ H fun y H1 => tb σ H1 fun x H2 => ∃ a o, x = V.ref a ∧ DGet H2 a y o ∧ Q (.bl o.isSome) H2 := rfl
theorem z_dget : tDGet ta tb σ H Q = ta σ H fun x H1 => tb σ H1 fun y H2 => ∃ a v, x = V.ref a ∧ DGet H2 a y (some v) ∧ Q v H2 := rfl
theorem z_dput : sDPut ta tb te D σ H = te σ H fun v H1 => ta σ H1 fun x H2 => tb σ H2 fun y H3 => ∃ a H4, x = V.ref a ∧ DPut H3 a y v H4 ∧ D.nx σ H4 := rfl
theorem z_cont : tCont D σ H = D.ct σ H := rfl
theorem z_dnew : tDNewK σ H Q = ∀ p, H p = none → Q (.ref p) (upd H p (.dK [])) := rfl
theorem z_sl {f : V → Option Int → Option Int → Hp → VK → Prop} {ul uh : TO} : tSl f te ul uh σ H Q = te σ H fun x H1 => ul σ H1 fun l H2 => uh σ H2 fun u H3 => f x l u H3 Q := rfl
theorem z_part {f : Option Int → Hp → Prop} : tPart te σ H f = te σ H fun x H1 => ∃ i, x = .int i ∧ f (some i) H1 := rfl
theorem z_nopart {f : Option Int → Hp → Prop} : tNoPart σ H f = f none H := rfl
theorem z_strI {i : Int} : rStrI [.int i] H Q = (i.natAbs.log2 < 1920 ∧ Q (.str (toString i)) H) := propext ⟨fun ⟨_, e, q⟩ => by cases e; exact q, fun q => ⟨_, rfl, q⟩⟩
theorem z_isN : tIsN ta σ H Q = ta σ H fun x H1 => Q (.bl (decide (x = .non))) H1 := rfl
theorem z_notN : tNotN ta σ H Q = ta σ H fun x H1 => Q (.bl (!decide (x = .non))) H1 := rfl
theorem z_dn1 {i : Int} : decide (V.int i = V.non) = false := rfl
theorem z_dn2 {i : Addr} : decide (V.ref i = V.non) = false := rfl
theorem z_dn3 {i : Bool} : decide (V.bl i = V.non) = false := rfl
theorem z_dn4 {i : Str} : decide (V.str i = V.non) = false := rfl
theorem z_dn5 : decide (V.non = V.non) = true := rfl
theorem z_some {a : V} {p : V → Prop} : (∃ x, some (some a) = some (some x) ∧ p x) = p a := propext ⟨fun ⟨_, e, q⟩ => by cases e; exact q, fun q => ⟨_, rfl, q⟩⟩
end
/-! comprehensions: outs i is what the i-th item gives, if anything -/
def OutOf (D : Addr) (nx : Hp → Prop) : Option V → Hp → Prop
  | some y, H4 => ∃ acc, H4 D = some (.lst acc) ∧ acc.length < sizeLine ∧ nx (upd H4 D (.lst (acc ++ [y])))
  | none, H3 => nx H3
def outL (outs : Nat → Option V) (n : Nat) : List V := (List.range n).filterMap outs
theorem outL_succ (outs : Nat → Option V) (n : Nat) : outL outs (n + 1) = outL outs n ++ (outs n).toList := by
  unfold outL
  rw [List.range_succ, List.filterMap_append]
  cases h : outs n <;> simp [h]
theorem outL_len (outs : Nat → Option V) (n : Nat) : (outL outs n).length ≤ n := by
  unfold outL
  exact Nat.le_trans (List.length_filterMap_le _ _) (by simp)
theorem same_mutD {H H' : Hp} {p : Addr} {o : HO} (s : Same H H') (hn : H p = none) : Same H (upd H' p o) := fun b u h => by
  rw [upd_ne (ne_of_none h hn)]; exact s b u h
theorem out_ok {H1 : Hp} {D : Addr} (hD : H1 D = none) (outs : Nat → Option V) {i n : Nat} (hi : i < n) (hn : n < 2 ^ 22) {H' H2 : Hp} (h : Same H1 H' ∧ H' D = some (.lst (outL outs i))) (s : Same H' H2) :
    OutOf D (fun H' => Same H1 H' ∧ H' D = some (.lst (outL outs (i + 1)))) (outs i) H2 := by
  have h2 := s _ _ h.2
  have h3 : Same H1 H2 := h.1.trans s
  cases e : outs i with
  | none =>
    refine ⟨h3, ?_⟩
    rw [outL_succ, e]
    simpa using h2
  | some y =>
    refine ⟨_, h2, Nat.lt_of_lt_of_le (Nat.lt_of_le_of_lt (Nat.le_trans (outL_len outs i) (Nat.le_of_lt hi)) hn) (by decide), same_mutD h3 hD, ?_⟩
    rw [upd_same, outL_succ, e]
    rfl
theorem comp_R {lo : Int} {n : Nat} {g : TG} {tt : TT} {te : TE} {vs : List Nat} {σ : St} {H1 : Hp} {Q : VK} (outs : Nat → Option V) (hn : n < 2 ^ 22)
    (turn : ∀ i H', i < n → Same H1 H' → ∀ Qo : Option V → Hp → Prop, (∀ H2, Same H' H2 → Qo (outs i) H2) → g (.int (lo + i)) (wipe σ vs) H' fun σ2 H2 => wipe σ2 vs = wipe σ vs ∧ tt σ2 H2 fun b H3 => if b = true then te σ2 H3 fun y H4 => Qo (some y) H4 else Qo none H3)
    (fin : ∀ D H', Same H1 H' → H' D = some (.lst (outL outs n)) → Q (.ref D) H') : LcW (Itr lo n) H1 g tt te vs σ Q := fun D hD =>
  lc_range (lo := lo) (n := n) (fun i H' => Same H1 H' ∧ H' D = some (.lst (outL outs i))) ⟨fun b u h => by rw [upd_ne (ne_of_none h hD)]; exact h, upd_same⟩
    (fun i H' hi p => turn i H' hi p.1 (OutOf D fun H' => Same H1 H' ∧ H' D = some (.lst (outL outs (i + 1)))) fun H2 s => out_ok hD outs hi hn p s) (fun H' p => fin D H' p.1 p.2)
theorem comp_T {K : PySem.W.Frag} {a : Addr} {xs : List V} {g : TG} {tt : TT} {te : TE} {vs : List Nat} {σ : St} {H1 : Hp} {Q : VK} (hT : SqT K H1 a xs) (outs : Nat → Option V) (hn : xs.length < 2 ^ 22)
    (turn : ∀ i x H', xs[i]? = some x → Same H1 H' → ∀ Qo : Option V → Hp → Prop, (∀ H2, Same H' H2 → Qo (outs i) H2) → g x (wipe σ vs) H' fun σ2 H2 => wipe σ2 vs = wipe σ vs ∧ tt σ2 H2 fun b H3 => if b = true then te σ2 H3 fun y H4 => Qo (some y) H4 else Qo none H3)
    (fin : ∀ D H', Same H1 H' → H' D = some (.lst (outL outs xs.length)) → Q (.ref D) H') : LcW (Itt K a) H1 g tt te vs σ Q := fun D hD => by
  have hsq : ∀ H', Same H1 H' → SqT K H' a xs := fun H' s => by
    rcases hT with (h | ⟨o, h⟩) | h
    · exact .inl (.inl (s _ _ h))
    · exact .inl (.inr ⟨o, s _ _ h⟩)
    · exact .inr h
  exact lc_tup (K := K) (a := a) (xs := xs) (fun i H' => Same H1 H' ∧ H' D = some (.lst (outL outs i))) ⟨fun b u h => by rw [upd_ne (ne_of_none h hD)]; exact h, upd_same⟩ (fun i H' _ p => hsq H' p.1)
    (fun i x H' hx p => turn i x H' hx p.1 (OutOf D fun H' => Same H1 H' ∧ H' D = some (.lst (outL outs (i + 1)))) fun H2 s => out_ok hD outs (by
      have := List.getElem?_eq_some_iff.mp hx
      exact this.1) hn p s) (fun H' p => fin D H' p.1 p.2)
theorem comp_L {K : PySem.W.Frag} {a : Addr} {xs : List V} {g : TG} {tt : TT} {te : TE} {vs : List Nat} {σ : St} {H1 : Hp} {Q : VK} (hT : SqL K H1 a xs) (outs : Nat → Option V) (hn : xs.length < 2 ^ 22)
    (turn : ∀ i x H', xs[i]? = some x → Same H1 H' → ∀ Qo : Option V → Hp → Prop, (∀ H2, Same H' H2 → Qo (outs i) H2) → g x (wipe σ vs) H' fun σ2 H2 => wipe σ2 vs = wipe σ vs ∧ tt σ2 H2 fun b H3 => if b = true then te σ2 H3 fun y H4 => Qo (some y) H4 else Qo none H3)
    (fin : ∀ D H', Same H1 H' → H' D = some (.lst (outL outs xs.length)) → Q (.ref D) H') : LcW (Itl K a) H1 g tt te vs σ Q := fun D hD =>
  lc_list (K := K) (a := a) (xs := xs) (fun i H' => Same H1 H' ∧ H' D = some (.lst (outL outs i))) ⟨fun b u h => by rw [upd_ne (ne_of_none h hD)]; exact h, upd_same⟩ (fun i H' _ p => p.1.seq hT)
    (fun i x H' hx p => turn i x H' hx p.1 (OutOf D fun H' => Same H1 H' ∧ H' D = some (.lst (outL outs (i + 1)))) fun H2 s => out_ok hD outs (by
      have := List.getElem?_eq_some_iff.mp hx
      exact this.1) hn p s) (fun H' p => fin D H' p.1 p.2)
theorem for_T {K : PySem.W.Frag} {a : Addr} {xs : List V} {g : TG} {tb : TS} {D : Ends} {σ : St} {H : Hp} (Pv : Nat → St → Hp → Prop) (h0 : Pv 0 σ H) (hl : ∀ i σ H, i ≤ xs.length → Pv i σ H → SqT K H a xs)
    (hs : ∀ i x σ H, xs[i]? = some x → Pv i σ H → ∀ N : St → Hp → Prop, (∀ σ' H', Pv (i + 1) σ' H' → N σ' H') → g x σ H fun σ2 H2 => tb { D with nx := N, ct := N, bk := D.nx } σ2 H2) (hd : ∀ σ H, Pv xs.length σ H → D.nx σ H) : ForW (Itt K a) H g tb D σ :=
  for_tup (xs := xs) Pv h0 hl (fun i x σ H hx p => hs i x σ H hx p _ fun _ _ h => h) hd
theorem for_L {K : PySem.W.Frag} {a : Addr} {xs : List V} {g : TG} {tb : TS} {D : Ends} {σ : St} {H : Hp} (Pv : Nat → St → Hp → Prop) (h0 : Pv 0 σ H) (hl : ∀ i σ H, i ≤ xs.length → Pv i σ H → SqL K H a xs)
    (hs : ∀ i x σ H, xs[i]? = some x → Pv i σ H → ∀ N : St → Hp → Prop, (∀ σ' H', Pv (i + 1) σ' H' → N σ' H') → g x σ H fun σ2 H2 => tb { D with nx := N, ct := N, bk := D.nx } σ2 H2) (hd : ∀ σ H, Pv xs.length σ H → D.nx σ H) : ForW (Itl K a) H g tb D σ :=
  for_list (xs := xs) Pv h0 hl (fun i x σ H hx p => hs i x σ H hx p _ fun _ _ h => h) hd
theorem for_R {lo : Int} {n : Nat} {g : TG} {tb : TS} {D : Ends} {σ : St} {H : Hp} (Pv : Nat → St → Hp → Prop) (h0 : Pv 0 σ H)
    (hs : ∀ i σ H, i < n → Pv i σ H → ∀ N : St → Hp → Prop, (∀ σ' H', Pv (i + 1) σ' H' → N σ' H') → g (.int (lo + i)) σ H fun σ2 H2 => tb { D with nx := N, ct := N, bk := D.nx } σ2 H2) (hd : ∀ σ H, Pv n σ H → D.nx σ H) : ForW (Itr lo n) H g tb D σ :=
  for_range (lo := lo) (n := n) Pv h0 (fun i σ H hx p => hs i σ H hx p _ fun _ _ h => h) hd
/-- while: the invariant W by its measure; N is what a turn is to reach -/
theorem while_of {c : TT} {tb : TS} {D : Ends} {σ : St} {H : Hp} (W : Nat → St → Hp → Prop) (m0 : Nat) (h0 : W m0 σ H)
    (hs : ∀ m σ H, W m σ H → ∀ N : St → Hp → Prop, (∀ m' σ' H', m' < m → W m' σ' H' → N σ' H') → (∀ σ' H', N σ' H' → ∃ m', m' < m ∧ W m' σ' H') →
      c σ H fun b H1 => if b = true then ∃ N : St → Hp → Prop, (∀ σ' H', N σ' H' → ∃ m', m' < m ∧ W m' σ' H') ∧ tb { D with nx := N, ct := N, bk := D.nx } σ H1 else D.nx σ H1) : tWhile c tb D σ H :=
  ⟨W, ⟨m0, h0⟩, fun m σ H w => hs m σ H w _ (fun m' _ _ a b => ⟨m', a, b⟩) (fun _ _ h => h)⟩
/-- a comprehension over zip of two tuples of one length -/
theorem comp_ZT {K : PySem.W.Frag} {a b : Addr} {xs ys : List V} {g : TG} {tt : TT} {te : TE} {vs : List Nat} {σ : St} {H1 : Hp} {Q : VK} (hl : xs.length = ys.length) (hA : SqT K H1 a xs) (hB : SqT K H1 b ys) (outs : Nat → Option V) (hn : xs.length < 2 ^ 22)
    (turn : ∀ i x y T H', xs[i]? = some x → ys[i]? = some y → Same H1 H' → H' T = none → ∀ Qo : Option V → Hp → Prop, (∀ H2, Same H' H2 → Qo (outs i) H2) → g (.ref T) (wipe σ vs) (upd H' T (.tup [x, y])) fun σ2 H2 => wipe σ2 vs = wipe σ vs ∧ tt σ2 H2 fun b H3 => if b = true then te σ2 H3 fun y H4 => Qo (some y) H4 else Qo none H3)
    (fin : ∀ D H', Same H1 H' → H' D = some (.lst (outL outs xs.length)) → Q (.ref D) H') : LcW (RZ.ItzT K a b) H1 g tt te vs σ Q := fun D hD => by
  have hsq : ∀ {a xs H'}, SqT K H1 a xs → Same H1 H' → SqT K H' a xs := fun hT s => by
    rcases hT with (h | ⟨o, h⟩) | h
    · exact .inl (.inl (s _ _ h))
    · exact .inl (.inr ⟨o, s _ _ h⟩)
    · exact .inr h
  refine ⟨fun i m H => m = xs.length - i ∧ i ≤ xs.length ∧ Same H1 H ∧ H D = some (.lst (outL outs i)), ⟨xs.length, by simp, Nat.zero_le _, fun b u h => by rw [upd_ne (ne_of_none h hD)]; exact h, upd_same⟩, ?_⟩
  rintro i m H ⟨rfl, hi, s1, hL⟩
  by_cases hlt : i < xs.length
  · have jlt : i < ys.length := by omega
    refine .inr ⟨⟨xs, ys, _, _, hsq hA s1, hsq hB s1, List.getElem?_eq_getElem hlt, List.getElem?_eq_getElem jlt⟩, fun H => Same H1 H ∧ H D = some (.lst (outL outs (i + 1))), fun H' p' => ⟨xs.length - (i + 1), by omega, rfl, hlt, p'⟩, fun v H' y => ?_⟩
    obtain ⟨T, u, v, rfl, hT, rfl, f1, f2⟩ := y
    exact turn i u v T H (f1 xs (hsq hA s1)) (f2 ys (hsq hB s1)) s1 hT (OutOf D fun H' => Same H1 H' ∧ H' D = some (.lst (outL outs (i + 1)))) fun H2 s => out_ok hD outs hlt hn ⟨s1, hL⟩ s
  · obtain rfl : i = xs.length := by omega
    exact .inl ⟨⟨xs, ys, hsq hA s1, hsq hB s1, Or.inl (Nat.le_refl _)⟩, fin D H s1 hL⟩
def Lc2W (J : It) (H1 : Hp) (g : TG) (tt : TT) (wi1 : TI) (g1 : TG) (tt1 : TT) (te : TE) (vs vs1 : List Nat) (σ : St) (Q : VK) : Prop := tLc2 (fun _ _ R => R J H1) g tt wi1 g1 tt1 te vs vs1 σ H1 Q
theorem z_lc2 {wi wi1 : TI} {g g1 : TG} {tt tt1 : TT} {te : TE} {vs vs1 : List Nat} {σ : St} {H : Hp} {Q : VK} : tLc2 wi g tt wi1 g1 tt1 te vs vs1 σ H Q = wi σ H fun J H1 => Lc2W J H1 g tt wi1 g1 tt1 te vs vs1 σ Q := rfl
/-- [f x y for x in xs for y in ys], both lists, f without a trace on the heap -/
theorem comp2_LL {K : PySem.W.Frag} {a b : Addr} {xs ys : List V} {g g1 : TG} {wi1 : TI} {te : TE} {vs vs1 : List Nat} {σ : St} {H1 : Hp} {Q : VK} (f : V → V → V) (σ1 : V → St) (σ2 : V → V → St) (hA : SqL K H1 a xs) (hB : SqL K H1 b ys) (hn : xs.length * ys.length < 2 ^ 22)
    (hg : ∀ x H' (P : St → Hp → Prop), P (σ1 x) H' → g x (wipe σ vs) H' P) (hw : ∀ x, wipe (σ1 x) vs = wipe σ vs)
    (hi : ∀ x H' R, Same H1 H' → R (Itl K b) H' → wi1 (σ1 x) H' R)
    (hg1 : ∀ x y H' (P : St → Hp → Prop), P (σ2 x y) H' → g1 y (wipe (σ1 x) vs1) H' P) (hw1 : ∀ x y, wipe (σ2 x y) vs1 = wipe (σ1 x) vs1)
    (he : ∀ x y H' Qe, x ∈ xs → y ∈ ys → Same H1 H' → Qe (f x y) H' → te (σ2 x y) H' Qe)
    (fin : ∀ D H', Same H1 H' → H' D = some (.lst (xs.flatMap fun x => ys.map (f x))) → Q (.ref D) H') :
    Lc2W (Itl K a) H1 g tYes wi1 g1 tYes te vs vs1 σ Q := fun D hD => by
  have full : ∀ i j : Nat, i < xs.length → j ≤ ys.length → (((xs.take i).flatMap fun x => ys.map (f x)) ++ ((ys.take j).map (f (xs[i]?.getD .non)))).length ≤ xs.length * ys.length := fun i j hi hj => by
    have e : ∀ l : List V, (l.flatMap fun x => ys.map (f x)).length = l.length * ys.length := fun l => by
      induction l with
      | nil => simp
      | cons x t ih => rw [List.flatMap_cons, List.length_append, ih, List.length_map, List.length_cons, Nat.add_mul, Nat.one_mul, Nat.add_comm]
    rw [List.length_append, e, List.length_map, List.length_take, List.length_take, Nat.min_eq_left (by omega), Nat.min_eq_left hj]
    have : (i + 1) * ys.length ≤ xs.length * ys.length := Nat.mul_le_mul_right _ hi
    rw [Nat.add_mul, Nat.one_mul] at this
    omega
  refine ⟨fun i m H => m = xs.length - i ∧ i ≤ xs.length ∧ Same H1 H ∧ H D = some (.lst ((xs.take i).flatMap fun x => ys.map (f x))), ⟨xs.length, by simp, Nat.zero_le _, fun b u h => by rw [upd_ne (ne_of_none h hD)]; exact h, by rw [upd_same]; simp⟩, ?_⟩
  rintro i m H ⟨rfl, hi', s1, hL⟩
  by_cases hlt : i < xs.length
  · have hx := List.getElem?_eq_getElem hlt
    refine .inr ⟨⟨xs, _, s1.seq hA, hx⟩, fun H => Same H1 H ∧ H D = some (.lst ((xs.take (i + 1)).flatMap fun x => ys.map (f x))), fun H' p' => ⟨xs.length - (i + 1), by omega, rfl, hlt, p'⟩, fun v H' y => ?_⟩
    obtain ⟨rfl, f1⟩ := y
    have hv := f1 xs (s1.seq hA)
    have ev : v = xs[i] := by rw [hx] at hv; exact (Option.some.inj hv).symm
    refine hg _ _ _ ⟨hw _, ?_⟩
    show wi1 _ _ _
    refine hi _ _ _ s1 ?_
    refine ⟨fun j k H => k = ys.length - j ∧ j ≤ ys.length ∧ Same H1 H ∧ H D = some (.lst (((xs.take i).flatMap fun x => ys.map (f x)) ++ ((ys.take j).map (f v)))), ⟨ys.length, by simp, Nat.zero_le _, s1, by simpa using hL⟩, ?_⟩
    rintro j k H ⟨rfl, hj, s2, hM⟩
    by_cases hjt : j < ys.length
    · have hy : ys[j]? = some ys[j] := List.getElem?_eq_getElem hjt
      refine .inr ⟨⟨ys, _, s2.seq hB, hy⟩, fun H => Same H1 H ∧ H D = some (.lst (((xs.take i).flatMap fun x => ys.map (f x)) ++ ((ys.take (j + 1)).map (f v)))), fun H' p' => ⟨ys.length - (j + 1), by omega, rfl, hjt, p'⟩, fun u H' y => ?_⟩
      obtain ⟨rfl, f2⟩ := y
      have hu := f2 ys (s2.seq hB)
      refine hg1 _ _ _ _ ⟨hw1 _ _, ?_⟩
      show te _ _ _
      refine he _ _ _ _ (List.mem_of_getElem? hv) (List.mem_of_getElem? hu) s2 ?_
      have fl := full i j hlt hj
      rw [hv] at fl
      refine ⟨_, hM, Nat.lt_of_le_of_lt fl (Nat.lt_of_lt_of_le hn (by decide)), same_mutD s2 hD, ?_⟩
      rw [upd_same, List.take_succ, hu, List.append_assoc]
      simp
    · have e : j = ys.length := by omega
      subst e
      refine .inl ⟨⟨ys, s2.seq hB, Nat.le_refl _⟩, s2, ?_⟩
      rw [hM, List.take_length, List.take_succ, hv]
      simp
  · obtain rfl : i = xs.length := by omega
    exact .inl ⟨⟨xs, s1.seq hA, Nat.le_refl _⟩, fin D H s1 (by rw [hL, List.take_length])⟩
theorem z_dget2 {σ : St} {H : Hp} {Q : VK} {ta tb te : TE} : tDGet2 ta tb te σ H Q = ta σ H fun x H1 => ∃ a, x = .ref a ∧ IsD H1 a ∧ tb σ H1 fun y H2 => te σ H2 fun z H3 => ∃ o, DGet H3 a y o ∧ Q (o.getD z) H3 := rfl
theorem z_izip {K : PySem.W.Frag} {σ : St} {H : Hp} {tl : TA} {R : It → Hp → Prop} : RZ.iZipA K tl σ H R = tl σ H fun vs H1 => ∃ a b xs ys, vs = [.ref a, .ref b] ∧ ((SqL K H1 a xs ∧ SqL K H1 b ys ∧ R (Itz K a b) H1) ∨ (SqT K H1 a xs ∧ SqT K H1 b ys ∧ R (RZ.ItzT K a b) H1)) := rfl
open Sem (wp)
/-! enumerate over a tuple -/
def itO (a : Addr) : Obj := { cls := .type "tuple_iterator", data := .fields #[.ref a, .int 0 0] }
def enO (it : Addr) : Obj := { cls := .type "enumerate", data := .fields #[.none, .bool false, .ref it, rawInt 0, .none, .none] }
theorem en_new (a : Addr) (its : Array Value) : Meets (Builtin.«enumerate.__new__» ⟨[.type "enumerate", .ref a], []⟩) (fun _ R s0 => s0.heap.IsTuple a its ∧ R (.ok (.ret (.ref (s0.heap.push (itO a)).objs.size))) { s0 with heap := (s0.heap.push (itO a)).push (enO s0.heap.objs.size) }) :=
  .of_wp fun prg wd AA RR s0 hs => by
    obtain ⟨hp, gg, dd, tk, os⟩ := s0
    obtain ⟨hT, hs⟩ := hs
    have hsub := PySem.sub_enumerate
    have go : ∀ {A' : Around} {E' : Value → Shared → Prop} {Q' : Value → Shared → Prop}, Q' (.ref hp.objs.size) ⟨hp.push (itO a), gg, dd, tk, os⟩ → wpAny (model prg wd) A' (pyIter (.ref a)) Q' E' ⟨hp, gg, dd, tk, os⟩ := fun q => (begins_tuple a its).iter prg wd _ _ ⟨hp, gg, dd, tk, os⟩ _ hT q
    wp_walk using go
    refine wpAny_stack_any fun stk => wpAny_pure ?_
    split
    · rename_i cc _ _ _ _ _
      cases (cc == Value.type "enumerate") <;> (wp_walk using go; exact ⟨_, rfl, hs⟩)
    · wp_walk using go
      exact ⟨_, rfl, hs⟩
theorem en_call {prg : Program} {wd : World} {AA : Around} {EE : Value → Shared → Prop} {s0 : Shared} {a : Addr} {its : Array Value} {Q : Value → Shared → Prop} (hT : s0.heap.IsTuple a its)
    (h : ∀ h1, IsEnum h1 (s0.heap.objs.size + 1) s0.heap.objs.size 0 .none → h1.IsTupleIter s0.heap.objs.size a 0 → (∀ b ob, s0.heap.get? b = some ob → h1.get? b = some ob) → Q (.ref (s0.heap.objs.size + 1)) { s0 with heap := h1 }) :
    wpAny (model prg wd) AA (call (.type "enumerate") [.ref a]) Q EE s0 := by
  refine callType_new F.called_enumerate (by decide) (F.typeCall_enumerate_1 _) (F.newCall_enumerate_1 _) (fun ob => F.args_object_init_2 ob _) F.entry_enumerate_new (en_new a its) ⟨hT, ?_⟩
  have z1 : (s0.heap.push (itO a)).objs.size = s0.heap.objs.size + 1 := Heap.size_push ..
  have z2 : IsEnum ((s0.heap.push (itO a)).push (enO s0.heap.objs.size)) (s0.heap.objs.size + 1) s0.heap.objs.size 0 .none := by
    have z3 := Heap.get?_push_size (s0.heap.push (itO a)) (o := enO s0.heap.objs.size) rfl
    rw [z1] at z3
    exact z3
  show _ ∧ _
  rw [z1]
  exact ⟨⟨_, z2, rfl⟩, h _ z2 ⟨_, Heap.get?_push_of_some _ (Heap.get?_push_size _ rfl), rfl, rfl⟩ fun b ob y => Heap.get?_push_of_some _ (Heap.get?_push_of_some _ y)⟩
/-- the tuple at a, each item in a new pair with its index -/
def IteT (K : PySem.W.Frag) (a : Addr) : It :=
  ⟨fun i H => ∃ (xs : List V) (x : V), SqT K H a xs ∧ xs[i]? = some x,
   fun i H v H' => ∃ T x, v = .ref T ∧ H T = none ∧ H' = upd H T (.tup [.int (i : Nat), x]) ∧ ∀ xs, SqT K H a xs → xs[i]? = some x,
   fun i H => ∃ xs : List V, SqT K H a xs ∧ xs.length = i⟩
theorem en_apart {h : Heap} {e it a : Addr} {n : Int} {old : Value} {its : Array Value} {i : Nat} (he : IsEnum h e it n old) (hi : h.IsTupleIter it a i) (ha : h.IsTuple a its) : a ≠ it ∧ e ∉ [it, a] ∧ e ≠ it := by
  obtain ⟨o1, g1, c1, _⟩ := hi
  obtain ⟨o2, g2, c2, _⟩ := ha
  have n1 : a ≠ it := fun q => by
    rw [q, g1] at g2
    cases g2
    rw [c1] at c2
    exact absurd c2 (by decide)
  have n2 : e ≠ it := fun q => by
    rw [q] at he
    have := g1.symm.trans he
    cases this
    exact (show (Value.type "enumerate") ≠ Value.type "tuple_iterator" by decide) c1
  have n3 : e ≠ a := fun q => by
    rw [q] at he
    have := g2.symm.trans he
    cases this
    exact (show (Value.type "enumerate") ≠ Value.type "tuple" by decide) c2
  exact ⟨n1, by simp [n2, n3], n2⟩
theorem turn_enT {prg : Program} {wd : World} {K : PySem.W.Frag} {elts : List Expr} {kk : Nat} {tpos : Pos} (a e it : Addr) : Turn prg wd K (.Tuple elts kk tpos) (IteT K a) [e, it] e (fun i h => (∃ old, IsEnum h e it ((i : Nat) : Int) old) ∧ h.IsTupleIter it a i) where
  mem := List.mem_cons_self
  obj := fun i h st b hb => by
    obtain ⟨⟨old, he⟩, o, ho, _, hd⟩ := st
    rcases List.mem_cons.mp hb with z | z
    · subst z
      exact ⟨_, he, fun v q => nomatch q⟩
    · obtain rfl := List.mem_singleton.mp z
      exact ⟨o, ho, fun v q => by rw [hd] at q; cases q⟩
  keep := fun i h h' st k => by
    obtain ⟨⟨old, he⟩, hi⟩ := st
    exact ⟨⟨old, k e List.mem_cons_self _ he⟩, hi.at fun o q => k it (List.mem_cons_of_mem _ List.mem_cons_self) o q⟩
  item := by
    intro X hP hw hK hc i pins s0 σ H EE I hf st hg
    subst hP hw hK
    obtain ⟨⟨old, he⟩, hi⟩ := st
    obtain ⟨xs, x, hq, hx⟩ := hg
    obtain ⟨its, rv, p, _⟩ := I.tuple hq
    have p : s0.heap.IsTuple a its.toArray := p
    obtain ⟨u, hu, relu⟩ := rv.get hx
    obtain ⟨n1, n2, n3⟩ := en_apart he hi p
    have hlt : i < its.toArray.size := by
      have := (List.getElem?_eq_some_iff.mp hu).1
      simpa using this
    have szE : e < s0.heap.objs.size := Heap.lt_size he
    have szI : it < s0.heap.objs.size := by
      obtain ⟨_, q, _⟩ := hi
      exact Heap.lt_size q
    refine wpAny_pyNext_enum_itemD (Draws.tuple (A := X.A.in1) (I.ok.hd hc) it a n1 its.toArray) he ⟨hi, p⟩ hlt n3 n2 fun y h1 tk hy ho hs hT _ hk => ?_
    have ey : y = u := by
      have : its[i]? = some y := by simpa using hy
      rw [hu] at this
      exact (Option.some.inj this).symm
    subst ey
    refine ⟨_, rfl, wpAny_letOwnedTupleGo_enum (s := { s0 with heap := h1, toks := tk + 1 }) ho fun h2 he2 sb => ?_⟩
    have hT2 := (sb.2 _ (Nat.ne_of_gt szE)).trans hT
    have fresh : H s0.heap.objs.size = none := I.hok.fresh (Nat.le_refl _)
    have neu : ObjOk X.prog X.w (upd H s0.heap.objs.size (.tup [.int (i : Nat), x])) h2 s0.heap.objs.size (.tup [.int (i : Nat), x]) := ⟨by show 2 ≤ sizeLine; decide, [.int i tk, y], .cons ⟨_, rfl⟩ (.cons relu .nil), ⟨_, hT2, rfl, _, rfl⟩⟩
    have kept : ∀ b ob, b ∉ [e, it] → s0.heap.get? b = some ob → h2.get? b = some ob := fun b ob hb q => by
      have hb' : b ≠ e ∧ b ≠ it := by simpa using hb
      exact (sb.2 b hb'.1).trans (hk b ob hb'.1 hb'.2 q)
    have J := I.turnedNew (t' := tk + 1) kept hf (Nat.le_refl _) neu
    refine ⟨.ref s0.heap.objs.size, _, J, rfl, ⟨_, x, rfl, fresh, rfl, fun ys hy => by rw [I.tuple_inj hy hq]; exact hx⟩, ⟨⟨y, ?_⟩, hs.1.at fun o q => (sb.2 it (Ne.symm n3)).trans q⟩, fun b hb => ?_⟩
    · rw [show ((i + 1 : Nat) : Int) = (i : Int) + 1 by omega]; exact he2
    · have hlt2 : b < s0.heap.objs.size := by
        rcases List.mem_cons.mp hb with z | z
        · rw [z]; exact szE
        · rw [List.mem_singleton.mp z]; exact szI
      rw [upd_ne (Nat.ne_of_lt hlt2)]
      exact (hf b hb).1
  done := by
    intro X hP hw hK hc i pins s0 σ H EE I hf st hg
    subst hP hw hK
    obtain ⟨⟨old, he⟩, hi⟩ := st
    obtain ⟨xs, hq, hx⟩ := hg
    obtain ⟨its, rv, p, _⟩ := I.tuple hq
    have p : s0.heap.IsTuple a its.toArray := p
    obtain ⟨n1, n2, n3⟩ := en_apart he hi p
    obtain ⟨f0, f1, f2, f3, f4, f5⟩ := hf it (List.mem_cons_of_mem _ List.mem_cons_self)
    have e1 : i = its.toArray.size := by
      have := rv.length
      simp
      omega
    subst e1
    exact wpAny_pyNext_enum_endD (Draws.tuple (A := X.A.in1) (I.ok.hd hc) it a n1 its.toArray) he ⟨hi, p⟩ fun h1 eb => ⟨rfl, I.turned (t' := s0.toks) (fun b ob hb q => eb b ob hb q) f0 f1 f3 f4 f5⟩
  self := fun AA i s0 Q EE st h => by
    obtain ⟨⟨_, he⟩, _⟩ := st
    exact wpAny_pyIter_enum he h
def iEnT (K : PySem.W.Frag) (ta : TA) : TI := fun σ H R => ta σ H fun vs H1 => ∃ a xs, vs = [.ref a] ∧ SqT K H1 a xs ∧ R (IteT K a) H1
theorem pi_enT {X : Cx} {e : Expr} {ta : TA} {p pos tpos : Pos} {elts : List Expr} {kk : Nat} (hg : Gl X "enumerate") (hm : X.mg "enumerate" = none) (ha : PA X [e] ta) (hs : starEach [e] X.env = [(false, eval e X.env)] := by rfl) : PI X (.Tuple elts kk tpos) (.Call (.Name "enumerate" p) [e] [] pos) (iEnT X.K ta) := by
  refine ⟨fun pins s0 σ H R I h => Call_ (ld_blt I hg hm boot_enumerate (PyProof.Rows.callWith_type1 (thn (ha.run pos pins s0 σ H _ I h) fun us s1 ⟨vs, H1, I1, r1, q1⟩ => ?_) hs rfl))⟩
  obtain ⟨a, xs, rfl, hq, q⟩ := q1
  cases r1 with
  | cons r rr =>
    cases rr
    cases r
    obtain ⟨its, rv, p', _⟩ := I1.tuple hq
    refine en_call (show s1.heap.IsTuple a its.toArray from p') fun h1 he hi hk => wpAny_pyIter_enum he ?_
    have J : Inv X pins σ H1 { s1 with heap := h1 } := I1.kept (t' := s1.toks) hk
    refine ⟨s1.heap.objs.size + 1, [s1.heap.objs.size + 1, s1.heap.objs.size], _, _, H1, rfl, J, turn_enT a (s1.heap.objs.size + 1) s1.heap.objs.size, ⟨⟨.none, he⟩, hi⟩, fun b hb => ?_, q⟩
    have above : s1.heap.objs.size ≤ b := (List.mem_cons.mp hb).elim (fun q => by rw [q]; exact Nat.le_succ _) (fun q => by rw [List.mem_singleton.mp q]; exact Nat.le_refl _)
    exact I1.fpOk above (I1.hok.fresh above)
/-- for i, x in enumerate(a tuple) -/
theorem for_enT {K : PySem.W.Frag} {a : Addr} {xs : List V} {g : TG} {tb : TS} {D : Ends} {σ : L2.St} {H : Hp} (Pv : Nat → L2.St → Hp → Prop) (h0 : Pv 0 σ H) (hl : ∀ i σ H, Pv i σ H → SqT K H a xs)
    (hs : ∀ (i : Nat) (x : V) (T : Addr) (σ : L2.St) (H : Hp), xs[i]? = some x → Pv i σ H → H T = none → ∀ N : L2.St → Hp → Prop, (∀ σ' H', Pv (i + 1) σ' H' → N σ' H') → g (.ref T) σ (upd H T (.tup [.int (i : Nat), x])) fun σ2 H2 => tb { D with nx := N, ct := N, bk := D.nx } σ2 H2) (hd : ∀ σ H, Pv xs.length σ H → D.nx σ H) : ForW (IteT K a) H g tb D σ := by
  refine ⟨fun k m σ H => m + k = xs.length ∧ Pv k σ H, ⟨xs.length, by omega, h0⟩, ?_⟩
  rintro i m σ H ⟨em, p⟩
  have q := hl i σ H p
  by_cases hlt : i < xs.length
  · refine .inr ⟨⟨xs, _, q, List.getElem?_eq_getElem hlt⟩, Pv (i + 1), fun σ' H' p' => ⟨xs.length - (i + 1), by omega, by omega, p'⟩, fun v H' y => ?_⟩
    obtain ⟨T, x', rfl, hT, rfl, f1⟩ := y
    exact hs i x' T σ H (f1 xs q) p hT _ fun _ _ h => h
  · obtain rfl : i = xs.length := by omega
    exact .inl ⟨⟨xs, q, rfl⟩, hd σ H p⟩
theorem z_ient {K : PySem.W.Frag} {σ : L2.St} {H : Hp} {tl : TA} {R : It → Hp → Prop} : iEnT K tl σ H R = tl σ H fun vs H1 => ∃ a xs, vs = [.ref a] ∧ SqT K H1 a xs ∧ R (IteT K a) H1 := rfl
/-! a chain of three comparisons -/
def tChain3 (r r' r'' : R2) (ta tb tc td : TE) : TE := fun σ H Q => ta σ H fun x H1 => tb σ H1 fun y H2 => r x y H2 fun z H3 => ∃ k, z = .bl k ∧ (if k = true then tc σ H3 fun u H4 => r' y u H4 fun z2 H5 => ∃ k2, z2 = .bl k2 ∧ (if k2 = true then td σ H5 fun v H6 => r'' u v H6 Q else Q (.bl false) H5) else Q (.bl false) H3)
theorem pt_chain3 {X : Cx} {pos : Pos} {a b c d : Expr} {ta tb tc td : TE} {op op' op'' : CmpOp} {r r' r'' : R2} (ho : OpR X (compareOp op) r) (ho' : OpR X (compareOp op') r') (ho'' : OpR X (compareOp op'') r'') (ha : PE X a ta) (hb : PE X b tb) (hc : PE X c tc) (hd : PE X d td)
    (hm : lastMarks [op, op', op''] [b, c, d] = false := by with_unfolding_all rfl) : PT X (.Compare a [op, op', op''] [b, c, d] pos) (tTest (tChain3 r r' r'' ta tb tc td)) := by
  refine ⟨fun pins s0 σ H Q I h => isTrue_chain (thn (ha.run pins s0 σ H _ I h) fun v s1 ⟨x, H1, I1, r1, q1⟩ => test_link (thn (hb.run pins s1 σ H1 _ I1 q1) fun u s2 ⟨y, H2, I2, r2, q2⟩ => thn (ho pins s2 σ H2 x y v u _ I2 r1 r2 q2) fun dd s3 ⟨z, H3, I3, r3, k, e, q3⟩ => ?_)) hm⟩
  subst e
  cases r3
  refine wpAny_truthy_bool ?_
  cases k with
  | false =>
    obtain ⟨k', e', q'⟩ := q3
    cases e'
    exact ite_ff ⟨H3, I3, q'⟩
  | true =>
    refine ite_tt (test_link (thn (hc.run pins s3 σ H3 _ I3 q3) fun w' s4 ⟨z', H4, I4, r4, q4⟩ => thn (ho' pins s4 σ H4 y z' u w' _ I4 r2 r4 q4) fun d' s5 ⟨z2, H5, I5, r5, k2, e2, q5⟩ => ?_))
    subst e2
    cases r5
    refine wpAny_truthy_bool ?_
    cases k2 with
    | false =>
      obtain ⟨k', e', q'⟩ := q5
      cases e'
      exact ite_ff ⟨H5, I5, q'⟩
    | true =>
      refine ite_tt (test_last (thn (hd.run pins s5 σ H5 _ I5 q5) fun w2 s6 ⟨z3, H6, I6, r6, q6⟩ => thn (ho'' pins s6 σ H6 z' z3 w' w2 _ I6 r4 r6 q6) fun d2 s7 ⟨z4, H7, I7, r7, k3, e3, q7⟩ => ?_))
      subst e3
      cases r7
      exact wpAny_truthy_bool ⟨H7, I7, q7⟩
theorem z_chain3 {K : PySem.W.Frag} {σ : L2.St} {H : Hp} {Q : VK} {r r' r'' : R2} {ta tb tc td : TE} : tChain3 r r' r'' ta tb tc td σ H Q = ta σ H fun x H1 => tb σ H1 fun y H2 => r x y H2 fun z H3 => ∃ k, z = .bl k ∧ (if k = true then tc σ H3 fun u H4 => r' y u H4 fun z2 H5 => ∃ k2, z2 = .bl k2 ∧ (if k2 = true then td σ H5 fun v H6 => r'' u v H6 Q else Q (.bl false) H5) else Q (.bl false) H3) := rfl
/-! x in (a, b, ..): the tuple is forgotten at once -/
def tInT (neg : Bool) (ta : TE) (ts : TA) : TE := fun σ H Q => ta σ H fun x H1 => ts σ H1 fun xs H2 => xs.length ≤ sizeLine ∧ flatV x = true ∧ xs.all flatV = true ∧ Q (.bl (if neg then !inV x xs else inV x xs)) H2
theorem z_inT {neg : Bool} {ta : TE} {ts : TA} {σ : L2.St} {H : Hp} {Q : VK} : tInT neg ta ts σ H Q = ta σ H fun x H1 => ts σ H1 fun xs H2 => xs.length ≤ sizeLine ∧ flatV x = true ∧ xs.all flatV = true ∧ Q (.bl (if neg then !inV x xs else inV x xs)) H2 := rfl
theorem pe_inT {X : Cx} {a : Expr} {ta : TE} {es : List Expr} {ts : TA} {x1} {p pos : Pos} (ha : PE X a ta) (h : PA X es ts) (hm : behindInMarks .In (.Tuple es x1 p) = false) : PE X (.Compare a [.In] [.Tuple es x1 p] pos) (tInT false ta ts) := by
  refine ⟨fun pins s σ H Q I hq => ?_⟩
  refine wpAny_Compare1 (thn (ha.run pins s σ H _ I hq) fun v s1 ⟨x, H1, I1, r1, q1⟩ => wpAny_Tuple_spliced (thn (h.run p pins s1 σ H1 _ I1 q1) fun us s2 ⟨xs, H2, I2, r, z, fx, fs, q⟩ => ⟨by rw [← r.length]; exact z, ?_⟩)) hm
  have I3 : Inv X pins σ H2 { s2 with heap := s2.heap.push { cls := .type "tuple", data := .seq us.toArray } } := I2.kept (t' := s2.toks) fun b u e => Heap.get?_push_of_some _ e
  refine SeqAt.in_tupleAt (eqU x) ⟨_, Heap.get?_push_size _ rfl, rfl, _, rfl⟩ (fun w hw => mem_eqAt r1 fx r fs w (by simpa using hw)) ⟨.bl _, H2, I3, rfl, ?_⟩
  rw [show us.toArray.any (eqU x) = us.any (eqU x) by simp, any_eqU r fs]
  exact q
theorem pe_notInT {X : Cx} {a : Expr} {ta : TE} {es : List Expr} {ts : TA} {x1} {p pos : Pos} (ha : PE X a ta) (h : PA X es ts) (hm : behindInMarks .NotIn (.Tuple es x1 p) = false) : PE X (.Compare a [.NotIn] [.Tuple es x1 p] pos) (tInT true ta ts) := by
  refine ⟨fun pins s σ H Q I hq => ?_⟩
  refine wpAny_Compare1 (thn (ha.run pins s σ H _ I hq) fun v s1 ⟨x, H1, I1, r1, q1⟩ => wpAny_Tuple_spliced (thn (h.run p pins s1 σ H1 _ I1 q1) fun us s2 ⟨xs, H2, I2, r, z, fx, fs, q⟩ => ⟨by rw [← r.length]; exact z, ?_⟩)) hm
  have I3 : Inv X pins σ H2 { s2 with heap := s2.heap.push { cls := .type "tuple", data := .seq us.toArray } } := I2.kept (t' := s2.toks) fun b u e => Heap.get?_push_of_some _ e
  refine SeqAt.notIn_tupleAt (eqU x) ⟨_, Heap.get?_push_size _ rfl, rfl, _, rfl⟩ (fun w hw => mem_eqAt r1 fx r fs w (by simpa using hw)) ⟨.bl _, H2, I3, rfl, ?_⟩
  rw [show us.toArray.any (eqU x) = us.any (eqU x) by simp, any_eqU r fs]
  exact q
end L2.Z
set_option Elab.async false
set_option linter.all false
set_option maxRecDepth 100000
set_option maxHeartbeats 4000000
/-! own exceptions with one field, over any built-in -/
namespace PySem
namespace ZExc
open PySem.W PySem.Calls PyProof.Rows PySem.HandSPX
open Builtin Builtin.ObjectAttr
def iA (fn : Str) (p1 p2 : Pos) : Arguments := { posonlyargs := [], args := [{ arg := "self", annotation := none, pos := p1 }, { arg := fn, annotation := none, pos := p2 }], vararg := none, kwonlyargs := [], kw_defaults := [], kwarg := none, defaults := [] }
def iB (fn : Str) (q1 q2 q3 q4 : Pos) : List Stmt := [.Assign [.Attribute (.Name "self" q1) fn q2] (.Name fn q3) q4]
def iS (fn : Str) : Scope := { kind := .function, names := [(PySem.Str.ofString "self", .local), (fn, .local)], isGenerator := false, isCoroutine := false, more := [] }
/-- what is known of a class cn over bmB with def __init__(self, fn): self.fn = fn -/
structure ExI (K : Frag) (mg : Str → Option Value) (cn fn qi : Str) (bmB : List Value) (newId : String) (C fI : Addr) : Prop where
  gC : mg cn = some (.ref C)
  ini : excInitIn K C bmB newId = true
  ovr : excOver K C bmB = true
  sa : findIn K (.ref C) "__setattr__" = some (some (.builtin "object.__setattr__"))
  ga : findIn K (.ref C) "__getattribute__" = some (some (.builtin "BaseException.__getattribute__"))
  gg : findIn K (.ref C) "__getattr__" = some none
  noN : findIn K (.ref C) fn = some none
  tkr : takerIn K C fn = some none
  iC : findIn K (.ref C) "__init__" = some (some (.ref fI))
  tC : typeIn K (.ref fI) = some (.type "function")
  isf : isFn K (.ref fI) = true
  kC : keepIn K (.ref C) = true
  exC : subIn K (.ref C) (.type "BaseException") = some true
  tyC : typeIn K (.ref C) = some (.type "type")
  hdC : hasDictIn K C = true
  fnc : ∃ (oc : Value) (od : Option Addr) (kV doc pm : Value) (an : Option Addr) (cdv ct : Value) (osl : Array (Option Value)) (p1 p2 q1 q2 q3 q4 : Pos),
    K.lookup fI = some ⟨oc, od, .func (fnOf "__init__" qi (iA fn p1 p2) (iB fn q1 q2 q3 q4) (iS fn) .none kV doc pm an cdv ct), osl⟩ ∧ codeIn K cdv qi = true
section
variable {prog : Program} {w : World} {A : Around} {R : Result → Shared → Prop} {hp : Heap} {g : Array GenState} {d : Drawn} {t : Nat} {os : OsState}
theorem own_store {K : Frag} {B : String} {bmB : List Value} {fn : Str} {tk : Tok} {v : Value} {x C : Addr} {fv : Array Value} (SF : StoreFacts B bmB "object.__setattr__" "object") (X : K.In hp) (hx : hp.get? x = some { cls := .ref C, data := .fields fv })
    (ho : excOver K C bmB = true) (ht : takerIn K C fn = some none) (hh : hasDictIn K C = true)
    (hq : ∀ h' tk' dx, (∀ b o, b ≠ x → hp.get? b = some o → h'.get? b = some o) → hp.objs.size ≤ dx → dx ≠ x → h'.get? x = some { cls := .ref C, dict := some dx, data := .fields fv } →
      h'.Ns1 dx (fun y => if y = fn then some v else none) → R (.ok (.ret .none)) ⟨h', g, d, tk', os⟩) :
    codeAny (model prog w) A (.call (.builtin "object.__setattr__") ⟨[.ref x, .str fn tk, v], []⟩) R ⟨hp, g, d, t, os⟩ := by
  have I : InstAt hp x { cls := .ref C, data := .fields fv } C none := ⟨hx, rfl, rfl, trivial⟩
  have hxs : x ≠ hp.objs.size := Nat.ne_of_lt (Heap.lt_size hx)
  obtain ⟨cd, hcd, hdd⟩ : ∃ cd, clsIn K C = some cd ∧ cd.hasDict = true := by
    unfold hasDictIn at hh
    cases e : clsIn K C with
    | none => rw [e] at hh; cases hh
    | some cd => rw [e] at hh; exact ⟨cd, rfl, hh⟩
  refine osa_openX (s := ⟨hp, g, d, t, os⟩) SF X I ho ht fun b => ?_
  have hcls : Looks (model prog w) hp (classData C) cd := looks_clsIn X hcd
  obtain ⟨nm, bs, mro, ns, qn, hd, sn, sb, ab, col, del⟩ := cd
  dsimp only at hdd
  subst hdd
  dsimp only
  unfold storeInOwnDict ownDictForStores
  repeat (first | with_reducible refine store_in_new ?_ ?_ | with_reducible refine wpAny_loadPart_at hx ?_ | with_reducible refine hcls.at ?_ | wp_step)
  · refine ⟨{ cls := .type "dict", data := .dict #[] }, #[], 0, ?_, rfl, fun e he => absurd he (by simp), fun _ => rfl⟩
    exact (Heap.get?_update_ne _ _ _ _ (Ne.symm hxs)).trans (Heap.get?_push_at rfl rfl)
  · intro h' tk' hn' hs
    have hx1 : (hp.push { cls := .type "dict", data := .dict #[] }).get? x = some { cls := .ref C, data := .fields fv } := Heap.get?_push_of_some _ hx
    refine hq h' tk' hp.objs.size (fun b o nb eb => ?_) (Nat.le_refl _) (Ne.symm hxs) ?_ hn'
    · refine (hs.2 b (Nat.ne_of_lt (Heap.lt_size eb))).trans ?_
      exact (Heap.get?_update_ne _ _ _ _ nb).trans (Heap.get?_push_of_some _ eb)
    · refine (hs.2 x hxs).trans ?_
      exact Heap.get?_update_self _ hx1 rfl
end
theorem one_line (v : Value) : [v].length ≤ sizeLine := by
  rw [sizeLine_eq]
  exact (by decide : 1 ≤ 16777216)
theorem ld_own {M : Model} {s : Shared} {name : Str} {scope : Scope} {L a : Addr} {cd : Value} {m : Str → Option Value} {x : Str} {pos : Pos} {v : Value} {Q : Value → Shared → Prop} {A : Around} {E : Value → Shared → Prop} (hn : s.heap.Ns L m) (hv : m x = some v) (h : Q v s)
    (hk : scope.kind = .function) (hl : (envOfC name scope L a cd).kindOf x = some .local) (hd : (x == ("__debug__" : Str)) = false) :
    wpAny M A (eval (.Name x pos) (envOfC name scope L a cd)) Q E s := wpAny_Name (wpAny_loadName_local hk hl hn hv h) hd
/-- what __init__ leaves of a fresh exception at x -/
structure IniEnd (fn : Str) (h h' : Heap) (x C dx t1 : Addr) (v : Value) : Prop where
  keep : ∀ b o, b ≠ x → h.get? b = some o → h'.get? b = some o
  obj : h'.get? x = some { cls := .ref C, dict := some dx, data := .fields #[.ref t1, .none, .none, .none, .bool false, .none] }
  dbig : h.objs.size ≤ dx
  dne : dx ≠ x
  ns : h'.Ns1 dx (fun y => if y = fn then some v else none)
/-- a made one -/
structure Made1 (fn : Str) (h h' : Heap) (e C d : Addr) (v : Value) : Prop where
  keep : ∀ b o, h.get? b = some o → h'.get? b = some o
  new : h.objs.size ≤ e
  obj : ∃ oe vs, h'.get? e = some oe ∧ oe.cls = .ref C ∧ oe.dict = some d ∧ oe.data = .fields vs ∧ vs[1]? = some .none
  dbig : h.objs.size ≤ d
  dne : d ≠ e
  ns : h'.Ns1 d (fun y => if y = fn then some v else none)
abbrev selfS : Str := PySem.Str.ofString "self"
/-- what the field's name has to be -/
structure FnOk1 (fn : Str) : Prop where
  db : (fn == ("__debug__" : Str)) = false
  k1 : ∀ (qi : Str) (L a : Addr) (cd : Value), (envOfC qi (iS fn) L a cd).kindOf selfS = some .local
  k2 : ∀ (qi : Str) (L a : Addr) (cd : Value), (envOfC qi (iS fn) L a cd).kindOf fn = some .local
  kd : ∀ x v : Value, ([(selfS, x), (fn, v)].all fun y => (iS fn).names.lookup y.1 == some .local || (iS fn).names.lookup y.1 == some .cell) = true
  l1 : ∀ (qi : Str) (L a : Addr) (cd x v : Value), bindL (envOfC qi (iS fn) L a cd).kindOf [(selfS, x), (fn, v)] (fun _ => none) selfS = some x
  l2 : ∀ (qi : Str) (L a : Addr) (cd x v : Value), bindL (envOfC qi (iS fn) L a cd).kindOf [(selfS, x), (fn, v)] (fun _ => none) fn = some v
  bs : ∀ (x v : Value) (qi : Str) (p1 p2 q1 q2 q3 q4 : Pos) (kV doc pm : Value) (an : Option Addr) (cdv ct : Value), bindArgs (fnOf "__init__" qi (iA fn p1 p2) (iB fn q1 q2 q3 q4) (iS fn) .none kV doc pm an cdv ct) ⟨[x, v], []⟩ = pure [(selfS, x), (fn, v)]
section
variable {prog : Program} {w : World} {A : Around} {E : Value → Shared → Prop} {R : Result → Shared → Prop} {s : Shared} {K : Frag} {mg : Str → Option Value} {C fI : Addr} {cn fn qi : Str} {B newId initId : String} {bmB : List Value}
theorem one_init (SF : StoreFacts B bmB "object.__setattr__" "object") (T : ExI K mg cn fn qi bmB newId C fI) (FO : FnOk1 fn) {x t0 : Addr} {v : Value} (X : K.In s.heap) (hlim : s.heap.NoLimit) (hx : s.heap.get? x = some (excO C t0)) (hroom : A.depth < recursionLimit)
    (hq : ∀ h' tk dx, IniEnd fn s.heap h' x C dx t0 v → R (.ok (.ret .none)) { s with heap := h', toks := tk }) :
    codeAny (model prog w) A (.call (.ref fI) ⟨[.ref x, v], []⟩) R s := by
  obtain ⟨oc, od, kV, doc, pm, an, cdv, ct, osl, p1, p2, q1, q2, q3, q4, ho, hcd⟩ := T.fnc
  refine Att.call_fn (binds := [(selfS, .ref x), (fn, v)]) X hlim ho hcd hroom (BindsTo.of_eq (FO.bs (.ref x) v qi p1 p2 q1 q2 q3 q4 kV doc pm an cdv ct)) (FO.kd _ _) (fun s1 IC => ?_) rfl rfl rfl
  obtain ⟨h1, tk1, rfl⟩ := IC.toInCall.same
  have kp : ∀ b o, s.heap.get? b = some o → h1.get? b = some o := IC.toInCall.keep
  have nsL := IC.toInCall.ns
  have fresh : s.heap.objs.size < h1.objs.size := nsL.lt
  show wpAny _ _ (execs _ _) _ _ _
  refine wpAny_execs_cons (plainObj_wpAny_Assign_Attribute ?_)
  refine ld_own (v := v) nsL (FO.l2 qi _ _ _ (.ref x) v) (ld_own (v := .ref x) nsL (FO.l1 qi _ _ _ (.ref x) v) ?_ rfl (FO.k1 _ _ _ _) (by decide)) rfl (FO.k2 _ _ _ _) FO.db
  refine set_plain (X.keeps kp) (ox := excO C t0) (od := none) ⟨kp _ _ hx, rfl, rfl, trivial⟩ T.sa ?_
  refine own_store SF (X.keeps kp) (kp _ _ hx) T.ovr T.tkr T.hdC fun h3 tk3 dx k3 dn dne hx3 hn3 => ?_
  show wpAny _ _ (execs _ _) _ _ _
  exact wpAny_execs_nil (hq h3 tk3 dx ⟨fun b o nb eb => k3 b o nb (kp b o eb), hx3, Nat.le_trans (Nat.le_of_lt fresh) dn, dne, hn3⟩)
theorem one_made (FB : ExcBaseFacts B newId initId bmB) (SF : StoreFacts B bmB "object.__setattr__" "object") (T : ExI K mg cn fn qi bmB newId C fI) (FO : FnOk1 fn) {v : Value} (X : K.In s.heap) (hlim : s.heap.NoLimit) (hroom : A.depth + 1 < recursionLimit)
    (hq : ∀ h' tk e d, Made1 fn s.heap h' e C d v → R (.ok (.ret (.ref e))) { s with heap := h', toks := tk }) :
    codeAny (model prog w) A (.call (.ref C) ⟨[v], []⟩) R s := by
  obtain ⟨nm, N, qn, bs, bm, hdct, sn, sub, ab, col, dd, k0, k1, k2, k3, k5, hC, hT⟩ := excInit_of X T.ini
  obtain ⟨hp, g, dr, tk, os⟩ := s
  have kp : ∀ b o, hp.get? b = some o → ((hp.push (kdv_tup [v])).push (excO C hp.objs.size)).get? b = some o := fun b o e => Heap.get?_push_of_some _ (Heap.get?_push_of_some _ e)
  have atx : ((hp.push (kdv_tup [v])).push (excO C hp.objs.size)).get? (hp.objs.size + 1) = some (excO C hp.objs.size) := by heap_get
  refine call_own FB hT hC (looks_findIn X T.iC) (fun self => bind_fn X self T.tC) (one_line v) ?_
  refine one_init (s := ⟨(hp.push (kdv_tup [v])).push (excO C hp.objs.size), g, dr, tk, os⟩) SF T FO (X.keeps kp) (hlim.keeps kp) atx ?_ fun h' tk' dx M => ?_
  · show A.depth + 1 < recursionLimit
    exact hroom
  · have old : ∀ b o, hp.get? b = some o → h'.get? b = some o := fun b o e => M.keep b o (Nat.ne_of_lt (Nat.lt_succ_of_lt (Heap.lt_size e))) (kp b o e)
    have big : hp.objs.size + 1 + 1 ≤ dx := by
      have := M.dbig
      simpa only [Heap.size_push] using this
    exact ⟨rfl, hq h' tk' (hp.objs.size + 1) dx ⟨old, Nat.le_succ _, ⟨_, _, M.obj, rfl, rfl, rfl, rfl⟩, by show hp.objs.size ≤ dx; omega, M.dne, M.ns⟩⟩
end
theorem fnOk_given : FnOk1 ("given" : Str) := ⟨by decide, fun _ _ _ _ => by kernel_rfl, fun _ _ _ _ => by kernel_rfl, fun _ _ => by kernel_rfl, fun _ _ _ _ _ _ => by kernel_rfl, fun _ _ _ _ _ _ => by kernel_rfl, fun _ _ _ _ _ _ _ _ _ _ _ _ _ _ _ => by with_unfolding_all rfl⟩
theorem fnOk_value : FnOk1 ("value" : Str) := ⟨by decide, fun _ _ _ _ => by kernel_rfl, fun _ _ _ _ => by kernel_rfl, fun _ _ => by kernel_rfl, fun _ _ _ _ _ _ => by kernel_rfl, fun _ _ _ _ _ _ => by kernel_rfl, fun _ _ _ _ _ _ _ _ _ _ _ _ _ _ _ => by with_unfolding_all rfl⟩
end ZExc
end PySem
namespace L2.Z
open PySem PySem.Spec PyProof.Rows PySem.ZExc
section
variable {X : Cx} {C fI : Addr} {cn fn qi : Str} {B newId initId : String} {bmB : List Value}
/-- C(e) -/
def tMk1 (fn : Str) (C : Addr) (ta : TA) : L2.St → Hp → XK → Prop := fun σ H Q => ta σ H fun vs H1 => ∃ v, vs = [v] ∧ ∀ d, H1 d = none → Q (.ref C) (some d) (upd H1 d (.xd [(fn, v)]))
theorem relO_one {fn : Str} {v : V} {u : Value} (r : RelV v u) (f : Str) : RelO (List.lookup f [(fn, v)]) (if f = fn then some u else none) := by
  have e : List.lookup f [(fn, v)] = if f = fn then some v else none := by
    by_cases h : f = fn
    · subst h
      simp [List.lookup]
    · have h2 : (f == fn) = false := by simpa using h
      simp [List.lookup, h2, h]
  rw [e]
  by_cases h : f = fn
  · rw [if_pos h, if_pos h]; exact r
  · rw [if_neg h, if_neg h]; trivial
theorem pmk1 (FB : ExcBaseFacts B newId initId bmB) (SF : StoreFacts B bmB "object.__setattr__" "object") (FO : FnOk1 fn) {a : Expr} {ta : TA} {p pos : Pos} {k : Nat} (T : ExI X.K X.mg cn fn qi bmB newId C fI) (hr : Room k X.A) (ha : PA X [a] ta) (hg : Gl X cn) (hdb : (cn == ("__debug__" : Str)) = false)
    (he : starEach (a :: []) X.env = (false, eval a X.env) :: starEach [] X.env := by rfl) (hpl : (backTo pos (starEach [] X.env)).any (·.1) = false := by rfl) :
    PMk X (.Call (.Name cn p) [a] [] pos) (tMk1 fn C ta) := by
  intro pins s0 σ H Q I h
  refine wpAny_Call_Name_kw (ld_glob I hg T.gC ?_ hdb)
  refine PySem.W.callWith_K (h₀ := X.base) I.ok.mod.kin T.kC (thn (ha.run pos pins s0 σ H _ I h) fun us s1 hh => ?_) he hpl
  obtain ⟨vs, H1, I1, r1, v, rfl, q1⟩ := hh
  refine ⟨I1.kIn, ?_⟩
  obtain ⟨u, rfl, rv⟩ := vals1 r1
  show wpAny _ _ (call (.ref C) [u]) _ _ _
  have lim := I1.nolimit
  obtain ⟨hp, g, dr, tk, os⟩ := s1
  refine wpAny_call (one_made FB SF T FO I1.kIn lim (by have := hr.dp; omega) fun h' tk' e d M => ?_)
  show MkP X pins σ Q (.ref e) ⟨h', g, dr, tk', os⟩
  obtain ⟨oe, fv, hoe, hc, hd, hdat, h1⟩ := M.obj
  obtain ⟨G, g1, g2⟩ := restrict h' fun b => decide (b ≠ e)
  have gk : ∀ b, b ≠ e → G.get? b = h'.get? b := fun b hb => g1 b (decide_eq_true hb)
  have ge : G.get? e = none := g2 e (by simp)
  have old : ∀ b o, hp.get? b = some o → G.get? b = some o := fun b o q => (gk b (Nat.ne_of_lt (Nat.lt_of_lt_of_le (Heap.lt_size q) M.new))).trans (M.keep b o q)
  have nsd : G.Ns1 d (fun y => if y = fn then some u else none) := M.ns.at (fun o q => (gk d M.dne).trans q)
  have J : Inv X pins σ (upd H1 d (.xd [(fn, v)])) ⟨G, g, dr, tk', os⟩ := I1.laid (t' := tk') old M.dbig ⟨_, nsd, fun f => relO_one rv f⟩
  refine ⟨e, oe, fv, ⟨G, g, dr, tk', os⟩, _, .ref C, some d, rfl, J, fun b o q => ?_, ge, hoe, ⟨hc, hd⟩, hdat, h1, ?_, rfl, I1.bare, raises_own T.exC T.tyC, q1 d (I1.hok.fresh M.dbig)⟩
  · have nb : b ≠ e := fun z => by
      subst z
      rw [show G.get? b = none from ge] at q
      cases q
    exact (gk b nb).symm.trans q
  · rw [upd_ne (Ne.symm M.dne)]
    exact I1.hok.fresh M.new
/-- raise C(e) -/
def tRaise1 (fn : Str) (C : Addr) (W : WX) (ta : TA) : TS := fun _ σ H => tMk1 fn C ta σ H fun cls d H' => W cls d σ H'
theorem ps_raise1 {W : WX} (FB : ExcBaseFacts B newId initId bmB) (SF : StoreFacts B bmB "object.__setattr__" "object") (FO : FnOk1 fn) {a : Expr} {ta : TA} {p pos pos2 : Pos} {k : Nat} (hc : X.calm = true) (T : ExI X.K X.mg cn fn qi bmB newId C fI) (hr : Room k X.A) (tk : Takes X W) (ha : PA X [a] ta) (hg : Gl X cn)
    (hdb : (cn == ("__debug__" : Str)) = false) (he : starEach (a :: []) X.env = (false, eval a X.env) :: starEach [] X.env := by rfl) (hpl : (backTo pos (starEach [] X.env)).any (·.1) = false := by rfl) :
    PS X (.Raise (some (.Call (.Name cn p) [a] [] pos)) none pos2) (tRaise1 fn C W ta) := ps_raise hc tk (pmk1 FB SF FO T hr ha hg hdb he hpl)
/-- e.fn, e the exception that the suite holds -/
def tField (fn : Str) (C : Addr) (a : Addr) (cls : Value) (d : Option Addr) (te : TE) : TE := fun σ H Q => te σ H fun x H1 => x = .ref a ∧ cls = .ref C ∧ ∃ (dd : Addr) (v : V), d = some dd ∧ H1 dd = some (.xd [(fn, v)]) ∧ Q v H1
theorem pe_field1 {a : Addr} {oe : Obj} {cls : Value} {d : Option Addr} {pn : List (Addr × Obj)} {e : Expr} {te : TE} {pos : Pos} (T : ExI X.K X.mg cn fn qi bmB newId C fI) (hz : Zc cls d oe) (hf : ∃ vs, oe.data = .fields vs) (he : PE (X.suite a ((a, oe) :: pn)) e te)
    (hb : attributeBase e fn X.env (eval e X.env) = eval e X.env := by rfl) :
    PE (X.suite a ((a, oe) :: pn)) (.Attribute e fn pos) (tField fn C a cls d te) := by
  refine ⟨fun pins s0 σ H Q I h => ?_⟩
  refine attr_of hb (thn (he.run pins s0 σ H _ I h) fun u s1 hh => ?_)
  obtain ⟨x, H1, I1, rx, rfl, rfl, dd, v, rfl, ea, q⟩ := hh
  cases (show u = Value.ref a from rx)
  obtain ⟨ha, _⟩ := I1.pin (a, oe) (List.mem_append_left _ List.mem_cons_self)
  obtain ⟨vs, hd⟩ := hf
  obtain ⟨mA, hns, hr⟩ := (show ∃ mA, s1.heap.Ns1 dd mA ∧ ∀ f, RelO (List.lookup f [(fn, v)]) (mA f) from I1.hok dd _ ea)
  obtain ⟨od, ho, hl⟩ := lookIn_ns hns
  have l : List.lookup fn [(fn, v)] = some v := by simp [List.lookup]
  obtain ⟨u2, hu, ru⟩ := RelO.some_of (v := v) (o := mA fn) (by rw [← l]; exact hr fn)
  have J : PySem.W.InstAt s1.heap a oe C (some od) := ⟨ha, hz.1, by unfold PySem.W.notCls; rw [hd] <;> rfl, by rw [hz.2]; exact ho⟩
  exact HandSPX.exc_get I1.kIn J T.ga T.gg T.exC (PySem.W.findObj_own T.hdC T.noN rfl (by rw [hl, hu])) (handed_of ru) ⟨v, H1, I1.tok _, ru, q⟩
end
end L2.Z

set_option Elab.async false
set_option linter.all false
set_option maxRecDepth 100000
set_option maxHeartbeats 4000000
namespace L2.Z
open PySem PySem.Spec PyProof.Rows
/-! ### try with several clauses, with and without names -/
section
variable {X : Cx} {pins : List (Addr × Obj)} {σ : L2.St} {H : Hp} {a : Addr} {cls : Value} {d : Option Addr} {s : Shared}
/-- the exception at a is taken down in X at s -/
def Down (X : Cx) (pins : List (Addr × Obj)) (σ : L2.St) (H : Hp) (a : Addr) (cls : Value) (d : Option Addr) (s : Shared) : Prop :=
  ∃ (B : Heap) (s0 : Shared), Inv X pins σ H s0 ∧ (∀ b o, s0.heap.get? b = some o → b ∉ frs X.stack → B.get? b = some o) ∧ s0.heap.UpToSlots s.heap ∧ HandSPX.FlyingZ B (X.env :: X.outer) a (Zc cls d) s.heap ∧ H a = none ∧ s.os = s0.os ∧ AllBare s.gens
theorem Down.inv (D : Down X pins σ H a cls d s) : Inv X pins σ H s := by
  obtain ⟨B, s0, I, nb, up, fl, _, os, ag⟩ := D
  exact I.landed nb fl.1 up os ag
theorem Down.suite (D : Down X pins σ H a cls d s) (hs : X.stack = X.env :: X.outer) (hf : X.env.frame = some X.env.locals) :
    ∃ oe vs, s.heap.get? a = some oe ∧ Zc cls d oe ∧ oe.data = .fields vs ∧ Inv (X.suite a ((a, oe) :: (X.pn ++ pins))) [] σ H s := by
  have I := D.inv
  obtain ⟨B, s0, _, _, _, fl, na, _, _⟩ := D
  obtain ⟨oe, vs, he, hz, hd⟩ := fl.there
  have out : a ∉ frs (X.env :: X.outer) := fun hm => by
    obtain ⟨_, o', e', hnf⟩ := fl.2.2.1.mem hm
    rw [he] at e'
    cases e'
    exact hnf _ hd
  refine ⟨oe, vs, he, hz, hd, I.suite he hd na (fun z => ?_) fun z => ?_⟩
  · exact out (List.mem_filterMap.mpr ⟨X.env, List.mem_cons_self, by rw [hf, z]⟩)
  · obtain ⟨e1, h1, h2⟩ := List.mem_filterMap.mp z
    exact out (List.mem_filterMap.mpr ⟨e1, List.mem_cons_of_mem _ h1, h2⟩)
/-- its flight is put out once more -/
theorem Down.again {A : Around} {E : Value → Shared → Prop} {Q : Unit → Shared → Prop} (D : Down X pins σ H a cls d s) (q : ∀ s', Down X pins σ H a cls d s' → Q () s') : wpAny (model X.prog X.w) A (setFlight (.ref a) none) Q E s := by
  obtain ⟨B, s0, I, nb, up, fl, na, os, ag⟩ := D
  exact HandSPX.lands_againZ fl fun h4 f4 u4 => q _ ⟨B, s0, I, nb, up.trans u4, f4, na, os, ag⟩
/-- the clause's class is looked up, and asked -/
theorem Down.asks {x : Str} {np : Pos} {c : Value} {b : Bool} {R : Bool → Shared → Prop} {E : Value → Shared → Prop} (D : Down X pins σ H a cls d s) (hs : X.stack = X.env :: X.outer) (hf : X.env.frame = some X.env.locals) (hc : Names X x c)
    (hb : PySem.W.exmOne X.K cls c = some b) (r : R b s) :
    wpAny (model X.prog X.w) (X.A.mark (some (.ref a))) (eval (.Name x np) X.env) (fun c1 s1 => wpAny (model X.prog X.w) (X.A.mark (some (.ref a))) (excMatches (.ref a) c1) R E s1) E s := by
  obtain ⟨oe, vs, he, hz, hd, S⟩ := D.suite hs hf
  have ty : PySem.W.Looks (model X.prog X.w) s.heap (typeOf (.ref a)) cls := fun _ _ _ _ k q => wpAny_typeOf_ref (k _ _ he) (by rw [hz.1]; exact q)
  have ans := PySem.W.exm_one (M := model X.prog X.w) S.kIn ty hb
  obtain ⟨g1, g2, g3 | ⟨g3, g4, g5⟩⟩ := hc
  · exact ld_glob (X := X.suite a ((a, oe) :: (X.pn ++ pins))) S g1 g3 (ans.here r) g2
  · exact ld_blt (X := X.suite a ((a, oe) :: (X.pn ++ pins))) S g1 g3 g4 (ans.here r) g5 g2
/-- what a named clause makes of its suite's reading: slot i holds the exception, and is forgotten behind -/
def tNamed (i : Nat) (ts : Addr → Value → Option Addr → TS) : Addr → Value → Option Addr → TS := fun a cls d D σ H =>
  ts a cls d { nx := fun σ' H' => D.nx (σ'.set i none) H', rt := D.rt, bk := fun σ' H' => D.bk (σ'.set i none) H', ct := fun σ' H' => D.ct (σ'.set i none) H' } (σ.set i (some (.ref a))) H
/-- the clauses, one behind the other -/
inductive Cls1 (X : Cx) : List ExceptHandler → List (Value × (Addr → Value → Option Addr → TS)) → Prop
  | nil : Cls1 X [] []
  | bare {x : Str} {c : Value} {ts : Addr → Value → Option Addr → TS} {b0 : Stmt} {su : List Stmt} {np p : Pos} {hds : List ExceptHandler} {l : List (Value × (Addr → Value → Option Addr → TS))} (hc : Names X x c)
      (hsu : ∀ (a : Addr) (oe : Obj) (cls : Value) (d : Option Addr) (pn : List (Addr × Obj)), Zc cls d oe → (∃ vs, oe.data = .fields vs) → PSs (X.suite a ((a, oe) :: pn)) (b0 :: su) (ts a cls d)) (r : Cls1 X hds l) :
      Cls1 X (.ExceptHandler (some (.Name x np)) none (b0 :: su) p :: hds) ((c, ts) :: l)
  | named {x n : Str} {i : Nat} {c : Value} {ts : Addr → Value → Option Addr → TS} {b0 : Stmt} {su : List Stmt} {np p : Pos} {hds : List ExceptHandler} {l : List (Value × (Addr → Value → Option Addr → TS))} (hc : Names X x c)
      (hN : X.N.Nodup) (hi : X.N[i]? = some n) (hln : X.env.kindOf n = some .local)
      (hsu : ∀ (a : Addr) (oe : Obj) (cls : Value) (d : Option Addr) (pn : List (Addr × Obj)), Zc cls d oe → (∃ vs, oe.data = .fields vs) → PSs (X.suite a ((a, oe) :: pn)) (b0 :: su) (ts a cls d)) (r : Cls1 X hds l) :
      Cls1 X (.ExceptHandler (some (.Name x np)) (some n) (b0 :: su) p :: hds) ((c, tNamed i ts) :: l)
theorem Cls1.runs {Wout : WX} {D : Ends} {hds : List ExceptHandler} {l : List (Value × (Addr → Value → Option Addr → TS))} (k : Cls1 X hds l) (hs : X.stack = X.env :: X.outer) (hf : X.env.frame = some X.env.locals) (tk : Takes X Wout) (G : Down X pins σ H a cls d s)
    (w : wMany X.K Wout D l cls d σ H) : wpAny (model X.prog X.w) X.A (handleBy (.ref a) X.env hds) (SP X pins D) X.xe s := by
  have ok := G.inv.ok
  induction k with
  | nil =>
    obtain ⟨B, s0, I, nb, up, fl, na, os, ag⟩ := G
    refine wpAny_handleBy_nil ?_
    obtain ⟨_, _, _, oe, vs, T, _, _, he, _, hd, h1, _⟩ := id fl
    have up1 : wpAny (model X.prog X.w) X.A (setFlight (.ref a) X.env.frame) (fun _ s4 => wpAny (model X.prog X.w) X.A (throw (.ref a) : Sem Flow) (SP X pins D) X.xe s4) X.xe s := by
      rw [hf]
      refine HandSPX.setFlight_upZ fl fun h4 held u4 => wpAny_throw (tk _ _ ?_)
      refine ⟨a, B, s0, pins, σ, H, cls, d, rfl, I, nb, up.trans u4, .inr (.inr ?_), na, os, ag, w⟩
      rw [hs]
      exact held
    unfold PySem.passOn
    refine wpAny_bind (wpAny_field he hd h1 ?_)
    rw [if_neg (by simp)]
    first
      | exact wpAny_bind (wpAny_pure (wpAny_bind up1))
      | exact wpAny_bind up1
  | bare hc hsu r ih =>
    obtain ⟨b, hb, yes, no⟩ := w
    refine wpAny_handleBy_cons (codeAny_handlers_test (G.asks hs hf hc hb ?_)) (by intro q; cases q)
    cases b with
    | false => exact ih (no rfl)
    | true =>
      refine codeAny_handlers_suite (G.again fun s4 G4 => ?_)
      obtain ⟨oe, vs, he, hz, hd, S⟩ := G4.suite hs hf
      have na : H a = none := by
        obtain ⟨_, _, _, _, _, _, z, _⟩ := G4
        exact z
      refine wpAny_mono ((hsu a oe cls d (X.pn ++ pins) hz ⟨_, hd⟩).run [] _ _ H _ S (yes rfl a na)) (fun f s6 hsp => ?_) (fun _ _ z => False.elim z)
      cases f with
      | ret u =>
        obtain ⟨v6, σ6, H6, S6, r6, q6⟩ := hsp
        exact ⟨_, _, _, S6.unsuite ok, r6, q6⟩
      | _ =>
        obtain ⟨σ6, H6, S6, q6⟩ := hsp
        exact ⟨_, _, S6.unsuite ok, q6⟩
  | @named x n i c ts b0 su np p hds2 l2 hc hN hi hln hsu r ih =>
    obtain ⟨b, hb, yes, no⟩ := w
    refine wpAny_handleBy_cons (codeAny_handlers_test (G.asks hs hf hc hb ?_)) (by intro q; cases q)
    cases b with
    | false => exact ih (no rfl)
    | true =>
      refine codeAny_handlers_suite_as (G.again fun s4 G4 => ?_)
      obtain ⟨oe, vs, he, hz, hd, S⟩ := G4.suite hs hf
      have na : H a = none := by
        obtain ⟨_, _, _, _, _, _, z, _⟩ := G4
        exact z
      refine store_ok (X := X.suite a ((a, oe) :: (X.pn ++ pins))) (v := .ref a) S hN hi (.inl hln) rfl (fun s5 S5 => ?_) (.inr hln)
      refine wpAny_mono ((hsu a oe cls d (X.pn ++ pins) hz ⟨_, hd⟩).run [] s5 _ H _ S5 (yes rfl a na)) (fun f s6 hsp => ?_) (fun _ _ z => False.elim z)
      cases f with
      | ret u =>
        obtain ⟨v6, σ6, H6, S6, r6, q6⟩ := hsp
        exact gone_ok (S6.unsuite ok) hN hi hln fun s7 J => ⟨_, _, _, J, r6, q6⟩
      | _ =>
        obtain ⟨σ6, H6, S6, q6⟩ := hsp
        exact gone_ok (S6.unsuite ok) hN hi hln fun s7 J => ⟨_, _, J, q6⟩
theorem ps_try_mix {body : List Stmt} {h0 : ExceptHandler} {hds : List ExceptHandler} {l : List (Value × (Addr → Value → Option Addr → TS))} {pos : Pos} {tb : WX → TS} {Wout : WX} (hs : X.stack = X.env :: X.outer) (hf : X.env.frame = some X.env.locals) (tk : Takes X Wout)
    (hb : ∀ (W : WX) (pn : List (Addr × Obj)) (xe : Value → Shared → Prop), Takes (X.tr pn xe) W → PassesOwn (model X.prog X.w) X.A X.env xe → PSs (X.tr pn xe) body (tb W))
    (k : Cls1 X (h0 :: hds) l) : PS X (.Try body (h0 :: hds) [] [] pos) (fun D σ H => tb (wMany X.K Wout D l) D σ H) := by
  refine ⟨fun pins s σ H D I h => wpAny_Try_except ?_⟩
  have frm : X.A.frames = some (X.env :: X.outer) := by rw [I.ok.frames, hs]
  refine wpAny_mono ((hb (wMany X.K Wout D l) (X.pn ++ pins) _ (fun u s' xx => ?_) PassesOwn.looking).run [] s σ H D (I.toTry _) h) (fun f s1 hsp => ?_) (fun e s1 he => he)
  · obtain ⟨a, B, sI, pins', σ', H', cls, d, rfl, J, nb, up, sky, na, os, ag, w⟩ := xx
    have sky2 : Sky B (X.env :: X.outer) a (Zc cls d) X.env.locals s'.heap := hs ▸ sky
    refine Sky.land Zc.steady frm hf sky2 fun h3 fl u3 => ?_
    exact k.runs hs hf tk ⟨B, sI, J.ofTry I.ok, nb, up.trans u3, fl, na, os, ag⟩ w
  · cases f with
    | ret v =>
      obtain ⟨v2, σ', H', J, r, q⟩ := hsp
      exact ⟨v2, σ', H', J.ofTry I.ok, r, q⟩
    | next =>
      obtain ⟨σ', H', J, q⟩ := hsp
      exact wpAny_execs_nil ⟨σ', H', J.ofTry I.ok, q⟩
    | _ =>
      obtain ⟨σ', H', J, q⟩ := hsp
      exact ⟨σ', H', J.ofTry I.ok, q⟩
end
end L2.Z

set_option Elab.async false
set_option linter.all false
set_option maxRecDepth 100000
set_option maxHeartbeats 4000000
namespace L2.Z
open PySem PySem.Spec PyProof.Rows
/-! ### repr of plain values, where no repr is under way -/
/-- the text that repr tells -/
def RepV (K : PySem.W.Frag) (H : Hp) (v : V) (z : Str) : Prop :=
  (∃ d, Dp K H v d ∧ d.showable = true ∧ d.hasDict = false ∧ d.depth ≤ 64 ∧ d.shown.length ≤ sizeLine ∧ z = d.shown) ∨ (∃ a, v = .ref a ∧ H a = some (.dK []) ∧ z = (PyData.dict []).shown)
def rRepV (K : PySem.W.Frag) : List V → Hp → VK → Prop := fun xs H Q => ∃ v z, xs = [v] ∧ RepV K H v z ∧ Q (.str z) H
theorem dk_empty {P : Program} {w : World} {H : Hp} {h : Heap} {a : Addr} (ok : HOk P w H h) (e : H a = some (.dK [])) : ∃ as, Reads h (.ref a) (.dict []) as ∧ sysModules ∉ as := by
  obtain ⟨hz, ns, vs, r, o, es, ep, ho, hx, hd, _, hp, _⟩ := dk_of ok e
  cases r
  have en : es.toList = [] := by
    cases hl : es.toList with
    | nil => rfl
    | cons x l => rw [hl] at hp; cases hp
  have hc : o.cls = .type "dict" := hx.1
  refine ⟨a :: [] ++ [], Reads.dict (kvs := []) ho hc hd (by rw [en]; exact ReadsAll.nil) (by rw [en]; exact ReadsAll.nil), fun z => ?_⟩
  have e2 : sysModules = a := by simpa using z
  rw [e2] at ns
  simp at ns
theorem call_repV {X : Cx} (hg : X.A.guards = some []) (hu : X.A.units + 80 < cLine) : CallR X (.builtin "repr") (rRepV X.K) := by
  intro pins s σ H xs us Q I r h
  obtain ⟨v, z, rfl, hz, q⟩ := h
  obtain ⟨u, rfl, r1⟩ := vals1 r
  rcases hz with ⟨d, hd, h1, h2, h3, h4, rfl⟩ | ⟨a, rfl, ha, rfl⟩
  · obtain ⟨as, rd⟩ := Dp.reads I d v u hd r1
    cases d with
    | none =>
      cases rd
      exact PySem.P.repr_of_none ⟨.str _, H, I.tok _, ⟨_, rfl⟩, q⟩
    | bool b =>
      cases rd
      exact PySem.P.repr_of_bool ⟨.str _, H, I.tok _, ⟨_, rfl⟩, q⟩
    | int i =>
      cases rd
      exact PySem.P.repr_of_int (by simpa [PyData.showable] using h1) ⟨.str _, H, I.tok _, ⟨_, rfl⟩, q⟩
    | str x =>
      cases rd
      exact PySem.P.repr_of_str ⟨.str _, H, I.tok _, ⟨_, rfl⟩, q⟩ h4
    | list l =>
      obtain ⟨a, rfl⟩ : ∃ a, u = Value.ref a := by cases rd; exact ⟨_, rfl⟩
      refine PySem.repr_of_reads' rd h1 (fun z => by rw [h2] at z; cases z) hg (by omega) (fun _ _ e => e) (fun h' u tk k => ⟨.str _, H, I.kept k, ⟨_, rfl⟩, q⟩) h4
    | tuple l =>
      obtain ⟨a, rfl⟩ : ∃ a, u = Value.ref a := by cases rd; exact ⟨_, rfl⟩
      refine PySem.repr_of_reads' rd h1 (fun z => by rw [h2] at z; cases z) hg (by omega) (fun _ _ e => e) (fun h' u tk k => ⟨.str _, H, I.kept k, ⟨_, rfl⟩, q⟩) h4
    | dict l => exact absurd h2 (by simp [PyData.hasDict])
  · cases (show u = Value.ref a from r1)
    obtain ⟨as, rd, ns⟩ := dk_empty I.hok ha
    exact PySem.repr_of_reads' rd (by decide) (fun _ => ns) hg (by simp only [PyData.depth, PyData.depthKv]; omega) (fun _ _ e => e) (fun h' u tk k => ⟨.str _, H, I.kept k, ⟨_, rfl⟩, q⟩) (by decide +kernel)
end L2.Z

set_option Elab.async false
set_option linter.all false
set_option maxRecDepth 100000
set_option maxHeartbeats 4000000
namespace L2.Z
open PySem PySem.Spec PyProof.Rows LamX
/-! ### defs that are promised only where no repr is under way -/
structure FnOkG (P : Program) (w : World) (K : PySem.W.Frag) (mg : Str → Option Value) (base : Heap) (CX : CXT) (k : Nat) (f : Addr) (fd : FuncData) (ps : List Str) (sp : Sp) : Prop where
  len : ∀ vs H Q E, sp vs H Q E → vs.length = ps.length
  run : ∀ (A : Around) (outer : List Env) (s : Shared) (H : Hp) (args : Args) (us : List Value) (vs : List V) (Q : VK) (E : XK), A.guards = some [] → Room k A → Env0 P w K mg base A outer s H → BindsTo s fd args (ps.zip us) → Vals vs us → sp vs H Q E →
    codeAny (model P w) A (.call (.ref f) args) (CR CX outer P w H s Q E) s
section
variable {P : Program} {w : World} {K : PySem.W.Frag} {mg : Str → Option Value} {base : Heap} {x qual : Str} {params : Arguments} {body : List Stmt} {scope : Scope} {f : Addr} {fd : FuncData} {CX : CXT} {N ps : List Str} {k : Nat} {sp : Sp}
theorem okG (F : FunD K x qual params body scope [] [] f fd) (S : FnScope N ps scope) (len : ∀ vs H Q E, sp vs H Q E → vs.length = ps.length)
    (hbody : ∀ (c : Addr) (A : Around) (outer : List Env) (s : Shared) (H : Hp) (vs : List V) (Q : VK) (E : XK), fd.code = .ref c → A.guards = some [] → Room k (A.deeper (envOfC qual scope s.heap.objs.size f (.ref c))) → sp vs H Q E →
      ∃ t, PSs (cxOf CX P w K mg base N qual scope f (.ref c) A outer s H E) body t ∧ t { nx := fun _ H' => Q .non H', rt := Q } (L2.start N vs) H) : FnOkG P w K mg base CX (k + 1) f fd ps sp := by
  obtain ⟨oc, od, dV, kV, doc, pm, an, cdv, ct, osl, rfl, lk, hcd, _, _⟩ := F.ex
  obtain ⟨c, rfl⟩ := He.codeIn_ref hcd
  exact ⟨len, fun A outer s H args us vs Q E hg hr e0 hb r h => run_ofS lk hcd S hr e0 hb r (len _ _ _ _ h) fun hr2 => hbody c A outer s H vs Q E rfl hg hr2 h⟩
end
section
variable {X : Cx} {CX : CXT} {k : Nat} {f : Addr} {fd : FuncData} {ps : List Str} {sp : Sp} {E : XK} {x : Str} {p pos : Pos} {e : Expr} {es : List Expr} {t : TA}
theorem pe_callG (F : FnOkG X.prog X.w X.K X.mg X.base CX k f fd ps sp) (gd : X.A.guards = some []) (hr : Room k X.A) (hg : Gl X x) (hm : X.mg x = some (.ref f)) (hk : PySem.W.keepIn X.K (.ref f) = true) (hb : L2.Binds X.K fd ps []) (hx : Passes CX X E)
    (ha : PA X (e :: es) t) (hdb : (x == ("__debug__" : Str)) = false := by decide) (he : starEach (e :: es) X.env = (false, eval e X.env) :: starEach es X.env := by rfl) (hpl : (backTo pos (starEach es X.env)).any (·.1) = false := by rfl) :
    PE X (.Call (.Name x p) (e :: es) [] pos) (tCall sp [] E t) := by
  refine ⟨fun pins s0 σ H Q I h => wpAny_Call_Name_kw (ld_glob I hg hm ?_ hdb)⟩
  refine PySem.W.callWith_K (h₀ := X.base) I.ok.mod.kin hk (thn (ha.run pos pins s0 σ H _ I h) fun us s1 ⟨vs, H1, I1, r, q⟩ => ⟨I1.kIn, ?_⟩) he hpl
  have q2 : sp vs H1 Q E := by
    have q3 : sp (vs ++ []) H1 Q E := q
    rwa [List.append_nil] at q3
  have hl : us.length = ps.length := by rw [← r.length]; exact F.len _ _ _ _ q2
  have b := hb s1 us I1.kIn (by rw [List.append_nil]; exact hl)
  rw [List.append_nil] at b
  refine wpAny_call (codeAny_mono (F.run X.A X.stack s1 H1 _ us vs Q E gd hr I1.env0 b r q2) fun rr s2 hq => ?_)
  match rr, hq with
  | .error e, hq => exact hx pins σ H1 s1 e s2 I1 hq
  | .ok (.ret u), hq => exact I1.after hq
  | .ok .next, hq => exact False.elim hq
  | .ok .brk, hq => exact False.elim hq
  | .ok .cont, hq => exact False.elim hq
end
end L2.Z

set_option Elab.async false
set_option linter.all false
set_option maxRecDepth 100000
set_option maxHeartbeats 4000000
namespace L2.Z
open PySem PySem.Spec PyProof.Rows LamX
/-! ### the end of a law whose promise wants that no repr is under way -/
abbrev listO (vs : List Value) : Obj := { cls := .type "list", data := .seq vs.toArray }
abbrev tabO : Obj := { cls := .none, data := .fields #[] }
theorem list_ne_tab {vs : List Value} : listO vs ≠ tabO := fun z => by
  have y : Data.seq vs.toArray _ = Data.fields #[] := congrArg Obj.data z
  cases y
/-- what is tracked when the law is called: the tables, and the script where it is not written -/
def lawH (K : PySem.W.Frag) (TA : List Addr) (a : Addr) (vs : List Value) (ns : List Int) : Hp := fun b =>
  if b ∈ TA then some (.tbl #[]) else if b = a ∧ K.lookup a = none then some (.frz (listO vs) (.lst (ns.map V.int))) else none
section
variable {K : PySem.W.Frag} {TA : List Addr} {a b : Addr} {vs : List Value} {ns : List Int} {h : Heap}
theorem lawH_tab (hb : b ∈ TA) : lawH K TA a vs ns b = some (.tbl #[]) := if_pos hb
theorem lawH_cases : lawH K TA a vs ns b = none ∨ b ∈ TA ∨ (b = a ∧ K.lookup a = none ∧ lawH K TA a vs ns b = some (.frz (listO vs) (.lst (ns.map V.int)))) := by
  unfold lawH
  by_cases h1 : b ∈ TA
  · exact .inr (.inl h1)
  · by_cases h2 : b = a ∧ K.lookup a = none
    · exact .inr (.inr ⟨h2.1, h2.2, by rw [if_neg h1, if_pos h2]⟩)
    · exact .inl (by rw [if_neg h1, if_neg h2])
/-- an object that is neither the script nor an empty table is not tracked -/
theorem lawH_none {o : Obj} (hT : ∀ c ∈ TA, h.get? c = some tabO) (ha : h.get? a = some (listO vs)) (e : h.get? b = some o) (n1 : o ≠ tabO) (n2 : o ≠ listO vs) : lawH K TA a vs ns b = none := by
  rcases lawH_cases (K := K) (TA := TA) (a := a) (b := b) (vs := vs) (ns := ns) with q | q | ⟨q, _, _⟩
  · exact q
  · exact absurd (Option.some.inj (e.symm.trans (hT b q))) n1
  · subst q
    exact absurd (Option.some.inj (e.symm.trans ha)) n2
theorem lawH_base {o : Obj} (hT : ∀ c ∈ TA, h.get? c = some tabO) (ha : h.get? a = some (listO vs)) (e : h.get? b = some o) (n1 : o ≠ tabO) (n2 : o ≠ listO vs) : (hidT h (lawH K TA a vs ns)).get? b = some o := hidT_get e (lawH_none hT ha e n1 n2)
theorem lawH_ns {m : Str → Option Value} (hT : ∀ c ∈ TA, h.get? c = some tabO) (ha : h.get? a = some (listO vs)) (n : h.Ns b m) : (hidT h (lawH K TA a vs ns)).Ns b m := by
  obtain ⟨o, es, ep, e, d, r⟩ := n
  refine ⟨o, es, ep, lawH_base hT ha e (fun z => ?_) (fun z => ?_), d, r⟩
  · rw [z] at d; cases d
  · rw [z] at d; cases d
theorem lawH_in (KX : K.In h) (hT : ∀ c ∈ TA, h.get? c = some tabO) (nT : ∀ c ∈ TA, K.lookup c = none) : K.In (hidT h (lawH K TA a vs ns)) := fun b o e => by
  refine hidT_get (KX b o e) ?_
  rcases lawH_cases (K := K) (TA := TA) (a := a) (b := b) (vs := vs) (ns := ns) with q | q | ⟨q, q2, _⟩
  · exact q
  · rw [nT b q] at e; cases e
  · subst q
    rw [q2] at e
    cases e
theorem lawH_sq (ha : h.get? a = some (listO vs)) (KX : K.In h) (aT : a ∉ TA) (hi : IntsAre vs ns) (hl : ns.length ≤ sizeLine) : SqL K (lawH K TA a vs ns) a (ns.map V.int) := by
  have rv := L2.vals_ints hi
  cases hk : K.lookup a with
  | some o =>
    have e := KX a o hk
    rw [ha] at e
    cases e
    exact .inr ⟨_, vs.toArray, _, hk, rfl, rfl, rfl, by rw [List.size_toArray, hi.length]; exact hl, by simpa using rv⟩
  | none =>
    refine .inl (.inr ⟨listO vs, ?_⟩)
    unfold lawH
    rw [if_neg aT, if_pos ⟨rfl, hk⟩]
theorem lawH_ok {P : Program} {w : World} (hT : ∀ c ∈ TA, h.get? c = some tabO) (ha : h.get? a = some (listO vs)) (hi : IntsAre vs ns) (hl : ns.length ≤ sizeLine) : HOk P w (lawH K TA a vs ns) h := fun b u e => by
  rcases lawH_cases (K := K) (TA := TA) (a := a) (b := b) (vs := vs) (ns := ns) with q | q | ⟨q, _, q3⟩
  · rw [q] at e; cases e
  · rw [lawH_tab q] at e
    cases e
    exact hT b q
  · rw [q3] at e
    cases e
    subst q
    exact ⟨ha, by rw [List.length_map]; exact hl, vs, _, L2.vals_ints hi, ha⟩
end
/-- what is known of the law's promise at the head's heap h -/
def LawAtG (l : PySem.W.OpenLaw) (w : World) (K : PySem.W.Frag) (CX : CXT) (k n : Nat) (x : Str) (mg : Str → Option Value) (fa : Addr) (h : Heap) : Prop :=
  ∃ (fd : FuncData) (cs : List (Addr × Addr)) (sp : Sp), (∀ p ∈ cs, h.get? p.2 = some tabO) ∧ (∀ p ∈ cs, K.lookup p.2 = none) ∧ (∀ p ∈ cs, PySem.W.CodeHd h p.1 p.2) ∧ (∀ (s : Shared) (u : Value), BindsTo s fd ⟨[u], []⟩ [(x, u)]) ∧
    (∀ (H : Hp) (a : Addr) (ns : List Int), ns.length ≤ n → (∀ z ∈ ns, Builtin.Int.intBits z ≤ 1048576) → (∀ p ∈ cs, H p.2 = some (.tbl #[])) → SqL K H a (ns.map V.int) → sp [.ref a] H (fun v _ => v = .bl true) fun _ _ _ => False) ∧
    ∀ base : Heap, K.In base → base.Ns mainGlobals mg → (∀ p ∈ cs, TabB base mg p.1 p.2) → FnOkG l.prog w K mg base CX k fa fd [x] sp
theorem walk_ofG {l : PySem.W.OpenLaw} {n k : Nat} {q : Program} {loose : List Str} {XP : (Str → Option Value) → Heap → Prop} {YP : World → Heap → Prop} {d : DefRec} {CX : World → CXT} {x : Str}
    (hn : l.most = some n) (hn2 : n ≤ sizeLine) (hdf : d.params.defaults = []) (hr : Room k callerA)
    (F : ∀ (w : World) (mg : Str → Option Value) (fa : Addr) (h : Heap), YP w h → h.Ns mainGlobals mg → mg d.name = some (.ref fa) → ∃ K : PySem.W.Frag, K.In h ∧ LawAtG l w K (CX w) k n x mg fa h)
    (hCX : ∀ (w : World) (H : Hp) (s : Shared) (e : Value) (s' : Shared), CX w [] H s (fun _ _ _ => False) e s' → False) :
    PySem.W.WalkO q loose XP YP l.row.toRowW d [] (fun f vs => PySem.call f vs) := by
  refine Att.attach_callB hn hdf fun w s0 s1 mg mb fa o0 pm cd doc a vs ns G Y _ _ _ hmg hobj hints hlen hbits hgens => ?_
  obtain ⟨K, KX, fd, cs, sp, tEmpty, tOut, tHd, bnd, hsp, hF⟩ := F w mg fa _ Y G.T.g hmg
  have hl : ns.length ≤ sizeLine := Nat.le_trans hlen hn2
  have hT : ∀ c ∈ cs.map (·.2), s1.heap.get? c = some tabO := fun c hc => by
    obtain ⟨p, hp, rfl⟩ := List.mem_map.mp hc
    exact tEmpty p hp
  have nT : ∀ c ∈ cs.map (·.2), K.lookup c = none := fun c hc => by
    obtain ⟨p, hp, rfl⟩ := List.mem_map.mp hc
    exact tOut p hp
  have isT : ∀ p ∈ cs, p.2 ∈ cs.map (·.2) := fun p hp => List.mem_map.mpr ⟨p, hp, rfl⟩
  have aT : a ∉ cs.map (·.2) := fun z => list_ne_tab (Option.some.inj (hobj.symm.trans (hT a z)))
  obtain ⟨H, eH⟩ : ∃ H, H = lawH K (cs.map (·.2)) a vs ns := ⟨_, rfl⟩
  have atT : ∀ p ∈ cs, H p.2 = some (.tbl #[]) := fun p hp => by rw [eH]; exact lawH_tab (isT p hp)
  have hSq : SqL K H a (ns.map V.int) := by rw [eH]; exact lawH_sq hobj KX aT hints hl
  have hOk : HOk l.prog w H s1.heap := by rw [eH]; exact lawH_ok hT hobj hints hl
  have nsB : ∀ {b : Addr} {m : Str → Option Value}, s1.heap.Ns b m → (hidT s1.heap H).Ns b m := fun {b m} z => by rw [eH]; exact lawH_ns hT hobj z
  have inB : K.In (hidT s1.heap H) := by rw [eH]; exact lawH_in KX hT nT
  have obB : ∀ {b : Addr} {o : Obj}, s1.heap.get? b = some o → o ≠ tabO → o ≠ listO vs → (hidT s1.heap H).get? b = some o := fun {b o} e n1 n2 => by rw [eH]; exact lawH_base hT hobj e n1 n2
  have noG : ∀ {m : Str → Option Value} {b : Addr} {o : Obj}, s1.heap.Ns b m → s1.heap.get? b = some o → ∃ es ep, o.data = .dict es ep := fun {m b o} ⟨o2, es, ep, e, hd, _⟩ e2 => by
    rw [e] at e2
    cases e2
    exact ⟨es, ep, hd⟩
  have mod : L2.Mod K mg (hidT s1.heap H) := ⟨inB, nsB G.T.g, ⟨mb, nsB G.T.b, G.T.builtins⟩, by
    obtain ⟨mc, z1, z2⟩ := G.T.nolimit
    exact ⟨mc, nsB z1, z2⟩⟩
  have tb : ∀ p ∈ cs, TabB (hidT s1.heap H) mg p.1 p.2 := fun p hp => by
    refine ⟨?_, ?_, fun z => ?_⟩
    · obtain ⟨o, us, file, tf, flags, tg, inF, text, tt, e1, r1, r2, rest⟩ := tHd p hp
      exact ⟨o, us, file, tf, flags, tg, inF, text, tt, obB e1 (fun z => by rw [z] at r1; cases r1) (fun z => by rw [z] at r1; exact absurd (Value.type.inj r1) (by decide)), r1, r2, rest⟩
    · obtain ⟨bm, ob, b1, b2, b3, b4, b5, b6⟩ := G.T.bmain
      have pl1 : ob ≠ tabO := fun z => by rw [z] at b6; cases b6
      have pl2 : ob ≠ listO vs := fun z => by rw [z] at b6; cases b6
      refine ⟨bm, ob, b1, b2, fun z => ?_, fun z => ?_, obB b3 pl1 pl2, b4, b5, b6⟩
      · subst z
        obtain ⟨es, ep, y⟩ := noG G.T.g b3
        rw [b6] at y
        cases y
      · subst z
        exact pl1 (Option.some.inj (b3.symm.trans (tEmpty p hp)))
    · have e := tEmpty p hp
      rw [← z] at e
      obtain ⟨es, ep, y⟩ := noG G.T.g e
      cases y
  have e0 : Env0 l.prog w K mg (hidT s1.heap H) callerA [] s1 H := ⟨rfl, mod, fun b o e => of_hidT e, Nat.le_of_eq (hidT_size _ _), trivial, fun b hb => absurd (show b ∈ ([] : List Addr) from hb) (by simp), hOk, .of_eq hgens⟩
  refine codeAny_mono ((hF _ inB (nsB G.T.g) tb).run callerA [] s1 H ⟨[.ref a], []⟩ [.ref a] [.ref a] _ _ rfl hr e0 (bnd s1 (.ref a)) (.cons rfl .nil) (hsp H a ns hlen hbits atT hSq)) fun r s' hq => ?_
  match r, hq with
  | .error e, hq => exact (hCX w H s1 e s' hq).elim
  | .ok .next, hq => exact False.elim hq
  | .ok .brk, hq => exact False.elim hq
  | .ok .cont, hq => exact False.elim hq
  | .ok (.ret u), hq =>
    obtain ⟨v, H', os, bare, un, ok2, rv, ev⟩ := hq
    have ev : v = .bl true := ev
    subst ev
    cases (show u = Value.bool true from rv)
    have grew : ∀ p ∈ cs, ∃ more : Array Value, s'.heap.get? p.2 = some { cls := .none, data := .fields more } := fun p hp => by
      obtain ⟨more, z⟩ := un.tbls p.2 #[] (atT p hp)
      exact ⟨_, ok2 p.2 _ z⟩
    have same : ∀ b o, b ∉ cs.map (·.2) → s1.heap.get? b = some o → s'.heap.get? b = some o := fun b o nb e => by
      rcases lawH_cases (K := K) (TA := cs.map (·.2)) (a := a) (b := b) (vs := vs) (ns := ns) with z | z | ⟨z, _, z3⟩
      · exact un.keep b o e (by rw [eH]; exact z) (fun y => absurd (show b ∈ ([] : List Addr) from y) (by simp)) (by simp)
      · exact absurd z nb
      · have z4 := un.frzs b _ _ (by rw [eH]; exact z3)
        obtain ⟨y, _⟩ := ok2 b _ z4
        subst z
        rw [hobj] at e
        cases e
        exact y
    refine ⟨rfl, ⟨fun b o e => ?_, fun b o e => ?_⟩, os, bare⟩
    · by_cases hb : b ∈ cs.map (·.2)
      · obtain ⟨p, hp, rfl⟩ := List.mem_map.mp hb
        obtain ⟨more, hm⟩ := grew p hp
        rw [tEmpty p hp] at e
        cases e
        exact .inr (.inl ⟨((tHd p hp).tab (tEmpty p hp)).isCodeTable, rfl, #[], more, rfl, by rw [Array.empty_append]; exact hm⟩)
      · exact .inl (same b o hb e)
    · by_cases hb : b ∈ cs.map (·.2)
      · obtain ⟨p, hp, rfl⟩ := List.mem_map.mp hb
        obtain ⟨more, hm⟩ := grew p hp
        exact ⟨_, hm⟩
      · exact ⟨o, same b o hb e⟩
end L2.Z

set_option Elab.async false
set_option linter.all false
set_option maxRecDepth 100000
set_option maxHeartbeats 4000000
namespace L2.Z
open PySem PySem.Spec PyProof.Rows LamX
/-! ### short words for defs that raise, and for lambdas handed on -/
abbrev CXR : Program → World → CXT := L2.CX
def OkkX (P : Program) (w : World) (K : PySem.W.Frag) (mg : Str → Option Value) (base : Heap) (k : Nat) (x : Str) (ps : List Str) (sp : Sp) : Prop :=
  ∃ fd, FnOk P w K mg base (L2.CX P w) k (He.ga K x) fd ps sp ∧ Binds K fd ps [] ∧ mg x = some (.ref (He.ga K x)) ∧ PySem.W.keepIn K (.ref (He.ga K x)) = true
def OkkG (P : Program) (w : World) (K : PySem.W.Frag) (mg : Str → Option Value) (base : Heap) (k : Nat) (x : Str) (ps : List Str) (sp : Sp) : Prop :=
  ∃ fd, FnOkG P w K mg base CX0 k (He.ga K x) fd ps sp ∧ Binds K fd ps [] ∧ mg x = some (.ref (He.ga K x)) ∧ PySem.W.keepIn K (.ref (He.ga K x)) = true
theorem passE0 {X : Cx} : Passes (L2.CX X.prog X.w) X E0 := fun _ _ _ _ _ _ _ h => by
  obtain ⟨_, _, _, _, _, _, _, _, _, _, _, _, z⟩ := h
  exact z.elim
/-- raise C('..') -/
def tRaise0 (C : Addr) (W : WX) : TS := fun _ σ H => W (.ref C) none σ H
theorem ps_raise0 {X : Cx} {C : Addr} {W : WX} {x m : Str} {j : Nat} {p p2 pos pos2 : Pos} (hc : X.calm = true) (tk : Takes X W) (gC : X.mg x = some (.ref C))
    (q : PySem.W.excIn X.K C He.veBase "ValueError.__new__" = true ∧ PySem.W.keepIn X.K (.ref C) = true ∧ PySem.W.subIn X.K (.ref C) (.type "BaseException") = some true ∧ PySem.W.typeIn X.K (.ref C) = some (.type "type")) (hg : Gl X x)
    (hdb : (x == ("__debug__" : Str)) = false) : PS X (.Raise (some (.Call (.Name x p) [.Constant (.str m) j p2] [] pos)) none pos2) (tRaise0 C W) :=
  ps_raise hc tk (pmk_own PySem.F.excBase_ValueError q.1 gC q.2.1 (raises_own q.2.2.1 q.2.2.2) hg hdb)
theorem z_raise1 {fn : Str} {C : Addr} {W : WX} {ta : TA} {D : Ends} {σ : L2.St} {H : Hp} : tRaise1 fn C W ta D σ H = ta σ H fun vs H1 => ∃ v, vs = [v] ∧ ∀ d, H1 d = none → W (.ref C) (some d) σ (upd H1 d (.xd [(fn, v)])) := rfl
theorem z_raise0 {C : Addr} {W : WX} {D : Ends} {σ : L2.St} {H : Hp} : tRaise0 C W D σ H = W (.ref C) none σ H := rfl
theorem codeOf_fd {K : PySem.W.Frag} {f x q : Str} {pa : Arguments} {bo : List Stmt} {sc : Scope} {fd : FuncData} {c : Addr} (F : FunD K x q pa bo sc [] [] (He.ga K f) fd) (hc : fd.code = .ref c) : (He.cT K (f, none)).1 = c := by
  obtain ⟨oc, od, dV, kV, doc, pm, an, cdv, ct, osl, rfl, lk, _⟩ := F.ex
  exact He.codeOf_eq (p := (f, none)) lk hc
theorem call_repV2 {X : Cx} {K : PySem.W.Frag} (e : X.K = K) (hg : X.A.guards = some []) (hu : X.A.units + 80 < cLine) : CallR X (.builtin "repr") (rRepV K) := by
  subst e
  exact call_repV hg hu
/-! what a head tells of a class with a field -/
def exiB (K : PySem.W.Frag) (cn fn : Str) (bmB : List Value) (newId : String) : Bool :=
  PySem.W.excInitIn K (He.ga K cn) bmB newId && PySem.W.excOver K (He.ga K cn) bmB && He.eqO (PySem.W.findIn K (.ref (He.ga K cn)) "__setattr__") (some (some (.builtin "object.__setattr__"))) &&
  He.eqO (PySem.W.findIn K (.ref (He.ga K cn)) "__getattribute__") (some (some (.builtin "BaseException.__getattribute__"))) && He.eqO (PySem.W.findIn K (.ref (He.ga K cn)) "__getattr__") (some none) && He.eqO (PySem.W.findIn K (.ref (He.ga K cn)) fn) (some none) &&
  He.eqO (PySem.W.takerIn K (He.ga K cn) fn) (some none) && He.eqO (PySem.W.findIn K (.ref (He.ga K cn)) "__init__") (some (some (.ref (He.ma K (He.ga K cn) "__init__")))) && decide (PySem.W.typeIn K (.ref (He.ma K (He.ga K cn) "__init__")) = some (.type "function")) &&
  PySem.W.isFn K (.ref (He.ma K (He.ga K cn) "__init__")) && PySem.W.keepIn K (.ref (He.ga K cn)) && decide (PySem.W.subIn K (.ref (He.ga K cn)) (.type "BaseException") = some true) && decide (PySem.W.typeIn K (.ref (He.ga K cn)) = some (.type "type")) && PySem.W.hasDictIn K (He.ga K cn)
theorem exi_ok {K : PySem.W.Frag} {mg : Str → Option Value} {cn fn qi : Str} {bmB : List Value} {newId : String} {pa : Arguments} {bo : List Stmt} {sc : Scope} {p1 p2 q1 q2 q3 q4 : Pos} (gC : mg cn = some (.ref (He.ga K cn))) (b : exiB K cn fn bmB newId = true)
    (F : ∃ fd, FunD K "__init__" qi pa bo sc [] [] (He.ma K (He.ga K cn) "__init__") fd) (hp : pa = PySem.ZExc.iA fn p1 p2) (hb : bo = PySem.ZExc.iB fn q1 q2 q3 q4) (hs : sc = PySem.ZExc.iS fn) :
    PySem.ZExc.ExI K mg cn fn qi bmB newId (He.ga K cn) (He.ma K (He.ga K cn) "__init__") := by
  subst hp hb hs
  obtain ⟨fd, F⟩ := F
  obtain ⟨oc, od, dV, kV, doc, pm, an, cdv, ct, osl, rfl, lk, hcd, hD, _⟩ := F.ex
  have hd : dV = .none := by
    rcases hD with ⟨_, e⟩ | ⟨e, _⟩
    · exact e
    · exact absurd rfl e
  subst hd
  unfold exiB at b
  simp only [Bool.and_eq_true, decide_eq_true_eq] at b
  obtain ⟨⟨⟨⟨⟨⟨⟨⟨⟨⟨⟨⟨⟨b1, b2⟩, b3⟩, b4⟩, b5⟩, b6⟩, b7⟩, b8⟩, b9⟩, b10⟩, b11⟩, b12⟩, b13⟩, b14⟩ := b
  exact ⟨gC, b1, b2, He.eqO_ok b3, He.eqO_ok b4, He.eqO_ok b5, He.eqO_ok b6, He.eqO_ok b7, He.eqO_ok b8, b9, b10, b11, b12, b13, b14, ⟨oc, od, kV, doc, pm, an, cdv, ct, osl, p1, p2, q1, q2, q3, q4, lk, hcd⟩⟩
def clsBody : Stmt → List Stmt
  | .ClassDef (body := b) .. => b
  | _ => []
theorem hu80_of {k : Nat} {A : Around} (r : Room k A) : A.units + 80 < cLine := by have := r.un; omega
section
variable {X : Cx}
/-- x(lambda: body), x as it stands behind the top -/
theorem pe_met {T : List (Addr × Str)} {TT : (XK → Hp → VK → Prop) → Hp → VK → Prop} {x a : Str} {c P : Addr} {k : Nat} {pg : Arguments} {bg : List Stmt} {sg : Scope} {fd : FuncData} {Ng : List Str}
    {params : Arguments} {body : Expr} {scope : Scope} {t : XK → TE} {p lpos pos : Pos} (F : FunD X.K x x pg bg sg [] [] (He.ga X.K x) fd) (hm : X.mg x = some (.ref (He.ga X.K x))) (hb : L2.Binds X.K fd [a] []) (Sg : FnScope Ng [a] sg) (hNg : Ng[0]? = some a) (hva : Vis sg a) (hr : Room (k + 2) X.A)
    (hG : ∀ cdv : Value, Room (k + 1) (X.A.deeper (envOfC x sg 0 (He.ga X.K x) cdv)) → GivesTo X Ng x sg (He.ga X.K x) cdv bg a (X.env.qual ++ "<lambda>") TT)
    (hg : Gl X x) (TB : TabB X.base X.mg c P) (hcode : X.env.code = .ref c) (hmT : (P, X.env.qual ++ "<lambda>") ∈ T) (hu : ∀ p ∈ T, p.1 = P → p.2 = X.env.qual ++ "<lambda>") (L : LamS X.env.scope scope) (hdef : defaultsOf params X.env = ([], []))
    (hbind : ∀ (q : Str) (cl : List (Str × Addr)) (pm cv ctv : Value), bindArgs (PySem.W.kla_fn "<lambda>" q params body scope cl pm cv ctv) ⟨[], []⟩ = pure [])
    (hbody : ∀ (A : Around) (outer : List Env) (s : Shared) (H : Hp) (E : XK) (f c' : Addr), Room k (A.deeper (lamEnv X scope s.heap.objs.size f c')) → PE (lamCx X A outer s H E scope f c') body (t E))
    (hdb : (x == ("__debug__" : Str)) = false := by decide) (hd : (a == ("__debug__" : Str)) = false := by decide) (hcd : (a == ("__classdict__" : Str)) = false := by decide) :
    PE X (.Call (.Name x p) [.Lambda params body scope lpos] [] pos) (tLam T TT t) := by
  obtain ⟨oc, od, dV, kV, doc, pm, an, cdv, ct, osl, rfl, lk, hcg, _, _⟩ := F.ex
  exact pe_lamcall hg hm F.kp lk hcg hb Sg hNg hva (hG cdv (hr.deeper _)) TB hcode hmT hu hr L hdef hbind hbody hdb hd hcd
end
end L2.Z

set_option Elab.async false
set_option linter.all false
set_option maxRecDepth 100000
set_option maxHeartbeats 4000000
namespace L2.Z
open PySem PySem.Spec PyProof.Rows LamX
theorem z_lam {T : List (Addr × Str)} {TT : (XK → Hp → VK → Prop) → Hp → VK → Prop} {t : XK → TE} {σ : L2.St} {H : Hp} {Q : VK} : tLam T TT t σ H Q = (Tabs T H ∧ ∀ H1, ExtN H H1 → Tabs T H1 → TT (fun E H' Q' => t E σ H' Q') H1 Q) := rfl
/-! ### what stays, but for the dice and the tables -/
def KN (no : List Addr) (H H' : Hp) : Prop := ∀ b o, b ∉ no → H b = some o → (∀ ps, o ≠ .tbl ps) → H' b = some o
theorem KN.refl (no : List Addr) (H : Hp) : KN no H H := fun _ _ _ h _ => h
theorem KN.trans {no : List Addr} {H H1 H2 : Hp} (a : KN no H H1) (b : KN no H1 H2) : KN no H H2 := fun c o n h t => b c o n (a c o n h t) t
theorem KN.ext {no : List Addr} {H H1 : Hp} (a : ExtN H H1) : KN no H H1 := fun c o _ h t => a c o h t
theorem KN.same {no : List Addr} {H H1 : Hp} (a : Same H H1) : KN no H H1 := fun c o _ h _ => a c o h
theorem KN.new {no : List Addr} {p : Addr} {H : Hp} {o : HO} (n : H p = none) : KN no H (upd H p o) := fun b u _ h _ => by rw [upd_ne (ne_of_none h n)]; exact h
theorem ExtN.same {H H1 : Hp} (a : Same H H1) : ExtN H H1 := fun c o h _ => a c o h
/-! plain data, none of it at no -/
mutual
def Pl (H : Hp) (no : List Addr) : PyData → V → Prop
  | .none, v => v = .non
  | .bool b, v => v = .bl b
  | .int i, v => v = .int i
  | .str x, v => v = .str x
  | .list ds, v => ∃ a xs, v = .ref a ∧ a ∉ no ∧ H a = some (.lst xs) ∧ PlAll H no ds xs
  | .tuple ds, v => ∃ a xs, v = .ref a ∧ a ∉ no ∧ H a = some (.tup xs) ∧ PlAll H no ds xs
  | .dict kvs, v => kvs = [] ∧ ∃ a, v = .ref a ∧ a ∉ no ∧ H a = some (.dK [])
def PlAll (H : Hp) (no : List Addr) : List PyData → List V → Prop
  | [], xs => xs = []
  | d :: ds, xs => ∃ y ys, xs = y :: ys ∧ Pl H no d y ∧ PlAll H no ds ys
end
mutual
theorem Pl.mono {H H' : Hp} {no : List Addr} (k : KN no H H') : ∀ (d : PyData) (v : V), Pl H no d v → Pl H' no d v
  | .none, _, h => by rw [Pl] at h ⊢; exact h
  | .bool b, _, h => by rw [Pl] at h ⊢; exact h
  | .int i, _, h => by rw [Pl] at h ⊢; exact h
  | .str x, _, h => by rw [Pl] at h ⊢; exact h
  | .list ds, _, h => by
    rw [Pl] at h ⊢
    obtain ⟨a, xs, e, n, q, r⟩ := h
    exact ⟨a, xs, e, n, k a _ n q (fun _ z => by cases z), PlAll.mono k ds xs r⟩
  | .tuple ds, _, h => by
    rw [Pl] at h ⊢
    obtain ⟨a, xs, e, n, q, r⟩ := h
    exact ⟨a, xs, e, n, k a _ n q (fun _ z => by cases z), PlAll.mono k ds xs r⟩
  | .dict kvs, _, h => by
    rw [Pl] at h ⊢
    obtain ⟨e0, a, e, n, q⟩ := h
    exact ⟨e0, a, e, n, k a _ n q (fun _ z => by cases z)⟩
theorem PlAll.mono {H H' : Hp} {no : List Addr} (k : KN no H H') : ∀ (ds : List PyData) (xs : List V), PlAll H no ds xs → PlAll H' no ds xs
  | [], _, h => by rw [PlAll] at h ⊢; exact h
  | d :: ds, _, h => by
    rw [PlAll] at h ⊢
    obtain ⟨y, ys, e, a, b⟩ := h
    exact ⟨y, ys, e, Pl.mono k d y a, PlAll.mono k ds ys b⟩
end
mutual
theorem Pl.fresh {H : Hp} {no : List Addr} {L : Addr} (n : H L = none) : ∀ (d : PyData) (v : V), Pl H no d v → Pl H (L :: no) d v
  | .none, _, h => by rw [Pl] at h ⊢; exact h
  | .bool b, _, h => by rw [Pl] at h ⊢; exact h
  | .int i, _, h => by rw [Pl] at h ⊢; exact h
  | .str x, _, h => by rw [Pl] at h ⊢; exact h
  | .list ds, _, h => by
    rw [Pl] at h ⊢
    obtain ⟨a, xs, e, m, q, r⟩ := h
    exact ⟨a, xs, e, fun z => (List.mem_cons.mp z).elim (fun y => ne_of_none q n y) m, q, PlAll.fresh n ds xs r⟩
  | .tuple ds, _, h => by
    rw [Pl] at h ⊢
    obtain ⟨a, xs, e, m, q, r⟩ := h
    exact ⟨a, xs, e, fun z => (List.mem_cons.mp z).elim (fun y => ne_of_none q n y) m, q, PlAll.fresh n ds xs r⟩
  | .dict kvs, _, h => by
    rw [Pl] at h ⊢
    obtain ⟨e0, a, e, m, q⟩ := h
    exact ⟨e0, a, e, fun z => (List.mem_cons.mp z).elim (fun y => ne_of_none q n y) m, q⟩
theorem PlAll.fresh {H : Hp} {no : List Addr} {L : Addr} (n : H L = none) : ∀ (ds : List PyData) (xs : List V), PlAll H no ds xs → PlAll H (L :: no) ds xs
  | [], _, h => by rw [PlAll] at h ⊢; exact h
  | d :: ds, _, h => by
    rw [PlAll] at h ⊢
    obtain ⟨y, ys, e, a, b⟩ := h
    exact ⟨y, ys, e, Pl.fresh n d y a, PlAll.fresh n ds ys b⟩
end
mutual
theorem Pl.perm {H : Hp} {no no' : List Addr} (n : ∀ b, b ∈ no' → b ∈ no) : ∀ {d : PyData} {v : V}, Pl H no d v → Pl H no' d v
  | .none, _, h => by rw [Pl] at h ⊢; exact h
  | .bool b, _, h => by rw [Pl] at h ⊢; exact h
  | .int i, _, h => by rw [Pl] at h ⊢; exact h
  | .str x, _, h => by rw [Pl] at h ⊢; exact h
  | .list ds, _, h => by
    rw [Pl] at h ⊢
    obtain ⟨a, xs, e, m, q, r⟩ := h
    exact ⟨a, xs, e, fun z => m (n a z), q, PlAll.perm n r⟩
  | .tuple ds, _, h => by
    rw [Pl] at h ⊢
    obtain ⟨a, xs, e, m, q, r⟩ := h
    exact ⟨a, xs, e, fun z => m (n a z), q, PlAll.perm n r⟩
  | .dict kvs, _, h => by
    rw [Pl] at h ⊢
    obtain ⟨e0, a, e, m, q⟩ := h
    exact ⟨e0, a, e, fun z => m (n a z), q⟩
theorem PlAll.perm {H : Hp} {no no' : List Addr} (n : ∀ b, b ∈ no' → b ∈ no) : ∀ {ds : List PyData} {xs : List V}, PlAll H no ds xs → PlAll H no' ds xs
  | [], _, h => by rw [PlAll] at h ⊢; exact h
  | d :: ds, _, h => by
    rw [PlAll] at h ⊢
    obtain ⟨y, ys, e, a, b⟩ := h
    exact ⟨y, ys, e, Pl.perm n a, PlAll.perm n b⟩
end
mutual
theorem Pl.dp {K : PySem.W.Frag} {H : Hp} {no : List Addr} : ∀ (d : PyData) (v : V), Pl H no d v → d.hasDict = false → Dp K H v d
  | .none, _, h, _ => by rw [Pl] at h; subst h; exact .non
  | .bool b, _, h, _ => by rw [Pl] at h; subst h; exact .bl b
  | .int i, _, h, _ => by rw [Pl] at h; subst h; exact .int i
  | .str x, _, h, _ => by rw [Pl] at h; subst h; exact .str x
  | .list ds, _, h, n => by
    rw [Pl] at h
    obtain ⟨a, xs, rfl, _, q, r⟩ := h
    exact .lst (.inl (.inl q)) (PlAll.dp ds xs r (by simpa [PyData.hasDict] using n))
  | .tuple ds, _, h, n => by
    rw [Pl] at h
    obtain ⟨a, xs, rfl, _, q, r⟩ := h
    exact .tup (.inl (.inl q)) (PlAll.dp ds xs r (by simpa [PyData.hasDict] using n))
  | .dict kvs, _, h, n => by simp [PyData.hasDict] at n
theorem PlAll.dp {K : PySem.W.Frag} {H : Hp} {no : List Addr} : ∀ (ds : List PyData) (xs : List V), PlAll H no ds xs → PyData.hasDictAll ds = false → DpAll K H xs ds
  | [], _, h, _ => by rw [PlAll] at h; subst h; exact .nil
  | d :: ds, _, h, n => by
    rw [PlAll] at h
    obtain ⟨y, ys, rfl, a, b⟩ := h
    simp only [PyData.hasDictAll, Bool.or_eq_false_iff] at n
    exact .cons (Pl.dp d y a n.1) (PlAll.dp ds ys b n.2)
end
/-- may be shown -/
def repOk (d : PyData) : Bool := d.showable && (!d.hasDict || (match d with | .dict [] => true | _ => false)) && decide (d.depth ≤ 64) && decide (d.shown.length ≤ sizeLine) && PyData.strOk d.shown
theorem Pl.rep {K : PySem.W.Frag} {H : Hp} {no : List Addr} {d : PyData} {v : V} (p : Pl H no d v) (r : repOk d = true) : RepV K H v d.shown := by
  unfold repOk at r
  simp only [Bool.and_eq_true, Bool.or_eq_true, Bool.not_eq_true', decide_eq_true_eq] at r
  obtain ⟨⟨⟨⟨r1, r2⟩, r3⟩, r4⟩, _⟩ := r
  rcases r2 with h | h
  · exact .inl ⟨d, Pl.dp d v p h, r1, h, r3, r4, rfl⟩
  · match d, h, p with
    | .dict [], _, p =>
      rw [Pl] at p
      obtain ⟨_, a, rfl, _, q⟩ := p
      exact .inr ⟨a, rfl, q, rfl⟩
theorem repOk_str {d : PyData} (r : repOk d = true) : PyData.strOk d.shown = true := by
  unfold repOk at r
  exact (Bool.and_eq_true_iff.mp r).2
/-! lists of tuples of texts -/
def TS1 (H : Hp) : List V → List (List Str) → Prop := Paired fun v ss => ∃ p, v = V.ref p ∧ H p = some (.tup (ss.map V.str)) ∧ ss.all PyData.strOk = true
def Told (H : Hp) (L : Addr) (ws : List (List Str)) : Prop := ∃ xs, H L = some (.lst xs) ∧ TS1 H xs ws
theorem TS1.mono {H H' : Hp} {xs : List V} {ws : List (List Str)} (r : TS1 H xs ws) (h : ∀ p ys, H p = some (.tup ys) → H' p = some (.tup ys)) : TS1 H' xs ws := by
  unfold TS1 at r ⊢
  induction r with
  | nil => exact .nil
  | cons a _ ih =>
    obtain ⟨p, e, q, w⟩ := a
    exact .cons ⟨p, e, h p _ q, w⟩ ih
theorem TS1.len {H : Hp} {xs : List V} {ws : List (List Str)} (r : TS1 H xs ws) : xs.length = ws.length := Paired.length r
theorem TS1.app {H : Hp} {xs ys : List V} {ws us : List (List Str)} (r : TS1 H xs ws) (q : TS1 H ys us) : TS1 H (xs ++ ys) (ws ++ us) := by
  unfold TS1 at r q ⊢
  induction r with
  | nil => exact q
  | cons a _ ih => exact .cons a ih
theorem Told.ext {H H' : Hp} {L : Addr} {ws : List (List Str)} (t : Told H L ws) (e : ExtN H H') : Told H' L ws := by
  obtain ⟨xs, h, r⟩ := t
  exact ⟨xs, e L _ h (fun _ z => by cases z), r.mono fun p ys q => e p _ q (fun _ z => by cases z)⟩
theorem Told.same {H H' : Hp} {L : Addr} {ws : List (List Str)} (t : Told H L ws) (e : Same H H') : Told H' L ws := t.ext (ExtN.same e)
/-- one more -/
theorem Told.put {H : Hp} {L p : Addr} {xs : List V} {ws : List (List Str)} {ss : List Str} (h : H L = some (.lst xs)) (r : TS1 H xs ws) (hp : H p = some (.tup (ss.map V.str))) (hw : ss.all PyData.strOk = true) : Told (upd H L (.lst (xs ++ [.ref p]))) L (ws ++ [ss]) := by
  have k : ∀ q ys, H q = some (.tup ys) → upd H L (.lst (xs ++ [.ref p])) q = some (.tup ys) := fun q ys e => by
    rw [upd_ne (fun z => by subst z; rw [h] at e; cases e)]
    exact e
  exact ⟨_, upd_same, (r.mono k).app (.cons ⟨p, rfl, k _ _ hp, hw⟩ .nil)⟩
def tsD (ws : List (List Str)) : List PyData := ws.map fun ss => .tuple (ss.map PyData.str)
theorem strs_dp {K : PySem.W.Frag} {H : Hp} : ∀ ss : List Str, DpAll K H (ss.map V.str) (ss.map PyData.str)
  | [] => .nil
  | s :: ss => .cons (.str s) (strs_dp ss)
theorem TS1.dp {K : PySem.W.Frag} {H : Hp} {xs : List V} {ws : List (List Str)} (r : TS1 H xs ws) : DpAll K H xs (tsD ws) := by
  unfold TS1 at r
  induction r with
  | nil => exact .nil
  | cons a _ ih =>
    obtain ⟨p, rfl, q, _⟩ := a
    exact .cons (.tup (.inl (.inl q)) (strs_dp _)) ih
theorem lay_strs : ∀ ss : List Str, ss.all PyData.strOk = true → PyData.canLayAll0 (ss.map PyData.str) = true
  | [], _ => by rw [List.map_nil, PyData.canLayAll0]
  | s :: ss, h => by
    simp only [List.all_cons, Bool.and_eq_true] at h
    rw [List.map_cons, PyData.canLayAll0, PyData.canLay0, h.1, lay_strs ss h.2]
    rfl
theorem depth_strs : ∀ ss : List Str, PyData.depthAll (ss.map PyData.str) = 0
  | [] => by rw [List.map_nil, PyData.depthAll]
  | s :: ss => by rw [List.map_cons, PyData.depthAll, PyData.depth, depth_strs ss]; rfl
theorem TS1.shaped {H : Hp} {xs : List V} {ws : List (List Str)} (r : TS1 H xs ws) : PyData.canLayAll0 (tsD ws) = true ∧ PyData.depthAll (tsD ws) ≤ 1 := by
  unfold TS1 at r
  unfold tsD
  induction r with
  | nil => exact ⟨by rw [List.map_nil, PyData.canLayAll0], by rw [List.map_nil, PyData.depthAll]; omega⟩
  | cons a _ ih =>
    obtain ⟨p, rfl, q, w⟩ := a
    refine ⟨by rw [List.map_cons, PyData.canLayAll0, PyData.canLay0, lay_strs _ w, ih.1]; rfl, ?_⟩
    rw [List.map_cons, PyData.depthAll, PyData.depth, depth_strs]
    exact Nat.max_le.mpr ⟨by omega, ih.2⟩
theorem Told.shaped {H : Hp} {L : Addr} {ws : List (List Str)} (t : Told H L ws) : SeqAt.shaped (.list (tsD ws)) = true := by
  obtain ⟨xs, _, r⟩ := t
  obtain ⟨a, b⟩ := r.shaped
  unfold SeqAt.shaped
  rw [PyData.canLay0, PyData.depth, a]
  simp
  omega
theorem Told.dp {K : PySem.W.Frag} {H : Hp} {L : Addr} {ws : List (List Str)} (t : Told H L ws) : Dp K H (.ref L) (.list (tsD ws)) := by
  obtain ⟨xs, h, r⟩ := t
  exact .lst (.inl (.inl h)) r.dp
theorem KN.put {no : List Addr} {L : Addr} {H : Hp} {o : HO} (h : L ∈ no) : KN no H (upd H L o) := fun b u n e _ => by
  have hb : b ≠ L := fun z => by
    subst z
    exact n h
  rw [upd_ne hb]
  exact e
theorem KN.less {no no' : List Addr} {H H' : Hp} (k : KN no H H') (h : ∀ b, b ∈ no → b ∈ no') : KN no' H H' := fun b o n e t => k b o (fun z => n (h b z)) e t
theorem KN.drop {no : List Addr} {L : Addr} {H0 H H' : Hp} (k0 : KN no H0 H) (n : H0 L = none) (k : KN (L :: no) H H') : KN no H0 H' := fun b o m e t => k b o (fun z => (List.mem_cons.mp z).elim (fun y => ne_of_none e n y) m) (k0 b o m e t) t
theorem Tabs.keep {T : List (Addr × Str)} {D : Addr} {H H' : Hp} {xs : List V} (t : Tabs T H) (hD : H D = some (.lst xs)) (k : ∀ b o, b ≠ D → H b = some o → H' b = some o) : Tabs T H' := fun p hp => by
  obtain ⟨ps, h1, h2, h3⟩ := t p hp
  have ne : ∀ {b : Addr} {o : HO}, H b = some o → o ≠ .lst xs → b ≠ D := fun {b o} e n z => by
    subst z
    rw [hD] at e
    exact n (Option.some.inj e).symm
  refine ⟨ps, k _ _ (ne h1 (fun z => by cases z)) h1, h2, fun pos cv hc => ?_⟩
  obtain ⟨c, e1, e2⟩ := h3 pos cv hc
  refine ⟨c, e1, k _ _ (ne e2 (fun z => ?_)) e2⟩
  unfold CodeO at z
  cases z
end L2.Z

set_option Elab.async false
set_option linter.all false
set_option maxRecDepth 100000
set_option maxHeartbeats 4000000
namespace L2.Z
open PySem PySem.Spec PyProof.Rows LamX
/-! ### a local that holds one of several defs is called -/
def tCallS (i : Nat) (S : Addr → Sp → Prop) (E : XK) (t : TA) : TE := fun σ H Q => ∃ f sp, σ[i]? = some (some (.ref f)) ∧ S f sp ∧ t σ H fun vs H1 => sp vs H1 Q E
theorem pe_callS {X : Cx} {CX : CXT} {i : Nat} {x : Str} {p pos : Pos} {e : Expr} {es : List Expr} {t : TA} {E : XK} {S : Addr → Sp → Prop}
    (A : ∀ f sp, S f sp → ∃ (k : Nat) (fd : FuncData) (ps : List Str), Room k X.A ∧ FnOk X.prog X.w X.K X.mg X.base CX k f fd ps sp ∧ PySem.W.keepIn X.K (.ref f) = true ∧ L2.Binds X.K fd ps [])
    (hN : X.N[i]? = some x) (hv : Vis X.env.scope x) (hx : Passes CX X E) (ha : PA X (e :: es) t)
    (hdb : (x == ("__debug__" : Str)) = false := by decide) (hcd : (x == ("__classdict__" : Str)) = false := by decide)
    (he : starEach (e :: es) X.env = (false, eval e X.env) :: starEach es X.env := by rfl) (hpl : (backTo pos (starEach es X.env)).any (·.1) = false := by rfl) : PE X (.Call (.Name x p) (e :: es) [] pos) (tCallS i S E t) := by
  refine ⟨fun pins s σ H Q I h => ?_⟩
  obtain ⟨f, sp, hs, hS, ht⟩ := h
  obtain ⟨k, fd, ps, hr, F, hk, hb⟩ := A f sp hS
  refine wpAny_Call_Name_kw (thn ((pe_var (pos := p) hN hv hdb hcd).run pins s σ H (fun v H1 => v = .ref f ∧ H1 = H) I ⟨.ref f, hs, rfl, rfl⟩) fun u s1 ⟨v, H1, I1, r1, q1⟩ => ?_)
  obtain ⟨rfl, rfl⟩ := q1
  cases r1
  refine PySem.W.callWith_K (h₀ := X.base) I.ok.mod.kin hk (thn (ha.run pos pins s1 σ _ _ I1 ht) fun us s2 ⟨vs, H2, I2, r, q⟩ => ⟨I2.kIn, ?_⟩) he hpl
  have q2 : sp (vs ++ []) H2 Q E := by
    rw [List.append_nil]; exact q
  exact run_fn F hr hb .nil hx I2 r q2
theorem z_callS {i : Nat} {S : Addr → Sp → Prop} {E : XK} {t : TA} {σ : L2.St} {H : Hp} {Q : VK} : tCallS i S E t σ H Q = tVar i σ H (fun v _ => ∃ f sp, v = .ref f ∧ S f sp ∧ t σ H fun vs H1 => sp vs H1 Q E) :=
  propext ⟨fun ⟨f, sp, h, r⟩ => ⟨_, h, f, sp, rfl, r⟩, fun ⟨v, h, f, sp, e, r⟩ => ⟨f, sp, by rw [← e]; exact h, r⟩⟩
def rAddS : V → V → Hp → VK → Prop := fun x y H Q => ∃ i j, x = .str i ∧ y = .str j ∧ i.length + j.length ≤ sizeLine ∧ Q (.str (i ++ j)) H
end L2.Z

set_option Elab.async false
set_option linter.all false
set_option maxRecDepth 100000
set_option maxHeartbeats 2000000
namespace L2.Z
open PySem PySem.Spec PyProof.Rows
/-- how many ints a set comprehension makes; F stands for the set with these members and so many -/
def tLenSc (wi : TI) (g : TG) (tt : TT) (te : TE) (vs : List Nat) : TE := fun σ H Q =>
  wi σ H fun J H1 => ∀ (D : Addr) (F : (Int → Bool) → Nat → HO), H1 D = none →
    ∃ W : Nat → Nat → Hp → Prop, (∃ m, W 0 m (upd H1 D (F (fun _ => false) 0))) ∧
      ∀ i m H2, W i m H2 → (J.stop i H2 ∧ ∃ S n, H2 D = some (F S n) ∧ Q (.int (n : Int)) H2) ∨
        (J.go i H2 ∧ ∃ N : Hp → Prop, (∀ H', N H' → ∃ m', m' < m ∧ W (i + 1) m' H') ∧
          ∀ x H3, J.yld i H2 x H3 → g x (wipe σ vs) H3 fun σ4 H4 => wipe σ4 vs = wipe σ vs ∧
            tt σ4 H4 fun b H5 => if b = true then te σ4 H5 fun y H6 => ∃ (c : Int) (S : Int → Bool) (n : Nat), y = .int c ∧ H6 D = some (F S n) ∧ n + 1 < scanBound ∧
              N (upd H6 D (F (fun k => S k || decide (k = c)) (if S c = true then n else n + 1))) else N H5)
def LenW (J : It) (H1 : Hp) (g : TG) (tt : TT) (te : TE) (vs : List Nat) (σ : St) (Q : VK) : Prop := tLenSc (fun _ _ R => R J H1) g tt te vs σ H1 Q
theorem z_lenSc {wi : TI} {g : TG} {tt : TT} {te : TE} {vs : List Nat} {σ : St} {H : Hp} {Q : VK} : tLenSc wi g tt te vs σ H Q = wi σ H fun J H1 => LenW J H1 g tt te vs σ Q := rfl
/-- over a tuple, all members the same int -/
theorem len_one {K : PySem.W.Frag} {a : Addr} {xs : List V} {g : TG} {te : TE} {vs : List Nat} {σ : St} {H1 : Hp} {Q : VK} {C0 : Int} (hT : H1 a = some (.tup xs)) (h1 : 1 ≤ xs.length)
    (turn : ∀ (i : Nat) (x : V) (H' : Hp), xs[i]? = some x → Same H1 H' → ∀ (Qo : VK) (N : Hp → Prop), Qo (.int C0) H' → g x (wipe σ vs) H' fun σ2 H2 => wipe σ2 vs = wipe σ vs ∧ tYes σ2 H2 fun b H3 => if b = true then te σ2 H3 Qo else N H3)
    (fin : ∀ H', Same H1 H' → Q (.int 1) H') : LenW (Itt K a) H1 g tYes te vs σ Q := by
  intro D F hD
  have sq : ∀ {H : Hp}, H a = some (.tup xs) → SqT K H a xs := fun h => .inl (.inl h)
  refine ⟨fun i m H => m = xs.length - i ∧ i ≤ xs.length ∧ Same H1 H ∧ ∃ S n, H D = some (F S n) ∧ (i = 0 → n = 0 ∧ S C0 = false) ∧ (0 < i → n = 1 ∧ S C0 = true), ⟨xs.length, by simp, Nat.zero_le _, fun b u h => by rw [upd_ne (ne_of_none h hD)]; exact h, _, _, upd_same, fun _ => ⟨rfl, rfl⟩, fun h => absurd h (by omega)⟩, ?_⟩
  rintro i m H2 ⟨rfl, hi, s, S, n, hS, h0, hp⟩
  by_cases hlt : i < xs.length
  · refine .inr ⟨⟨xs, xs[i], sq (s _ _ hT), by simp [hlt]⟩, fun H' => Same H1 H' ∧ ∃ S n, H' D = some (F S n) ∧ n = 1 ∧ S C0 = true, fun H' ⟨s', S', n', e, e1, e2⟩ => ⟨xs.length - (i + 1), by omega, rfl, hlt, s', S', n', e, fun h => absurd h (by omega), fun _ => ⟨e1, e2⟩⟩, fun x H3 y => ?_⟩
    obtain ⟨e, y⟩ := y
    subst e
    have n1 : n + 1 < scanBound := by
      rcases Nat.eq_zero_or_pos i with e | e
      · rw [(h0 e).1]; decide
      · rw [(hp e).1]; decide
    refine turn i x _ (y xs (sq (s _ _ hT))) s (fun y H6 => ∃ (c : Int) (S : Int → Bool) (n : Nat), y = .int c ∧ H6 D = some (F S n) ∧ n + 1 < scanBound ∧ (Same H1 (upd H6 D (F (fun k => S k || decide (k = c)) (if S c = true then n else n + 1))) ∧ ∃ S' n', upd H6 D (F (fun k => S k || decide (k = c)) (if S c = true then n else n + 1)) D = some (F S' n') ∧ n' = 1 ∧ S' C0 = true)) _
      ⟨C0, S, n, rfl, hS, n1, same_mutD s hD, _, _, upd_same, by
        rcases Nat.eq_zero_or_pos i with e | e
        · rw [if_neg (by rw [(h0 e).2]; decide), (h0 e).1]
        · rw [if_pos (hp e).2, (hp e).1], by simp⟩
  · obtain rfl : i = xs.length := by omega
    obtain ⟨rfl, _⟩ := hp (by omega)
    exact .inl ⟨⟨xs, sq (s _ _ hT), Nat.le_refl _⟩, S, 1, hS, fin H2 s⟩
end L2.Z

set_option Elab.async false
set_option linter.all false
set_option maxRecDepth 100000
set_option maxHeartbeats 2000000
namespace L2.Z
open PySem PySem.Spec PyProof.Rows
/-- the new set of a comprehension, empty -/
abbrev emptyI (w : World) : Obj := { cls := .type "set", dict := none, data := .set #[] 0 (.fresh 0 0 (!w.params.followText "set-order")) }
theorem addI {X : Cx} {pins : List (Addr × Obj)} {σ : L2.St} {H : Hp} {z : Shared} {EE : Value → Shared → Prop} {D : Addr} {S : Int → Bool} {n : Nat} {y : Int} {v : Value} {QQ : Value → Shared → Prop} (J : Inv X pins σ H z) (rv : RelV (.int y) v) (hD : H D = some (SetO X.w D S n)) (few : n + 1 < scanBound)
    (go : ∀ z', Inv X pins σ (upd H D (SetO X.w D (fun k => S k || decide (k = y)) (if S y = true then n else n + 1))) z' → ∀ u, QQ u z') : wpAny (model X.prog X.w) X.A (call (.builtin "set.add") [.ref D, v]) QQ EE z := by
  obtain ⟨tk, rfl⟩ := rv
  refine setR_add (setO_get J hD) few fun h' sb new => go _ ?_ _
  obtain ⟨o, q1, q2, q3, ho, _⟩ := new
  exact J.write (e := D) (t' := z.toks + 1) (by rw [hD]; trivial) (.inl rfl) (fun b u hb e => (sb.2 b hb).trans e) ⟨o, ho⟩ (setO_new ⟨o, q1, q2, q3, ho, by assumption⟩)
theorem lenSc_core {X : Cx} {pins : List (Addr × Obj)} {s : Shared} {σ : L2.St} {H : Hp} {Q : VK} {elt tg iter : Expr} {ifs : List Expr} {scope : Scope} {own : List (PySem.Str × Nat)} {pos p2 : Pos} {wi : TI} {g : TG} {tt : TT} {te : TE} {Qf : Value → Shared → Prop} (cm : X.calm = true) (nd : X.N.Nodup) (J0 : Inv X pins σ H s) (pit : PI X tg iter wi) (bk : BlkOk X.N X.env.scope scope own)
    (pgs : ∀ (s : Shared) (H : Hp) (C : Addr) (cl : List (PySem.Str × Addr)) (fp : List Addr), PG (X.blk s H scope (compEnvC scope cl C X.env) fp) tg g) (pts : ∀ (s : Shared) (H : Hp) (C : Addr) (cl : List (PySem.Str × Addr)) (fp : List Addr), PTs (X.blk s H scope (compEnvC scope cl C X.env) fp) ifs tt)
    (pes : ∀ (s : Shared) (H : Hp) (C : Addr) (cl : List (PySem.Str × Addr)) (fp : List Addr), PE (X.blk s H scope (compEnvC scope cl C X.env) fp) elt te) (nofold : ∀ x, foldedSetIterable iter X.env x = pure x) (hq : tLenSc wi g tt te (own.map (·.2)) σ H Q)
    (out : ∀ D C z m H' S n, Inv X pins σ H' z → H' D = some (SetO X.w D S n) → Q (.int (n : Int)) H' → z.heap.Ns C m → FpOk X pins H' C → compPost (model X.prog X.w) X.A X.xe none Qf (.ref D) C (.ok .next) z) :
    wpAny (model X.prog X.w) X.A (comprehension (.SetComp elt [⟨tg, iter, ifs, 0⟩] scope pos) scope X.env p2 (newSet (.type "set")) false (eval iter X.env) none) Qf X.xe s := by
  have known : ∀ y ∈ scope.names, y.2 = .free → ∃ c, X.env.cells.lookup y.1 = some c := fun y hy e => (bk.free y hy e).elim (fun k => J0.ok.has _ (.inl k)) fun k => J0.ok.has _ (.inr k)
  refine wpAny_comprehension_free (use := none) rfl nofold (closure_ok known) bk.kind (fun y hy e => by rw [bk.uniq y hy, e]) ?_
  refine thn (pit.run pins s σ H _ J0 hq) fun v1 z1 k1 => thn k1 fun v2 z2 k2 => ?_
  obtain ⟨it, fp, tn, J, H2, rfl, J2, T, at2, fr2, q⟩ := k2
  refine PpSet.newSet_ok (newEnv_comp ?_)
  obtain ⟨D, eD⟩ : ∃ D, z2.heap.objs.size = D := ⟨_, rfl⟩
  have nD : H2 D = none := J2.hok.fresh (Nat.le_of_eq eD)
  obtain ⟨W, ⟨m0, w0⟩, turn⟩ := q D (SetO X.w D) nD
  rw [eD]
  obtain ⟨z3, e3⟩ : ∃ z3 : Shared, { z2 with heap := z2.heap.push (emptyI X.w) } = z3 := ⟨_, rfl⟩
  have hz3 : z3.heap = z2.heap.push (emptyI X.w) := by rw [← e3]
  have J3 : Inv X pins σ (upd H2 D (SetO X.w D (fun _ => false) 0)) z3 := by
    rw [← e3]
    refine J2.laid (t' := z2.toks) (fun b o e => Heap.get?_push_of_some _ e) (Nat.le_of_eq eD) ?_
    subst eD
    exact setO_new (setR_fresh X.w)
  have below : ∀ b ∈ fp, b < z2.heap.objs.size := fun b hb => Heap.lt_size (T.obj _ _ at2 b hb).choose_spec.1
  obtain ⟨H3, eH3⟩ : ∃ H3, upd H2 D (SetO X.w D (fun _ => false) 0) = H3 := ⟨_, rfl⟩
  rw [eH3] at J3 w0
  have fr3 : ∀ b ∈ fp, FpOk X pins H3 b ∧ b < z3.heap.objs.size := fun b hb => by
    have lt := below b hb
    refine ⟨⟨?_, (fr2 b hb).2⟩, by rw [hz3, Heap.size_push]; exact Nat.lt_succ_of_lt lt⟩
    rw [← eH3, upd_ne (Nat.ne_of_lt (by rw [← eD]; exact lt))]
    exact (fr2 b hb).1
  have at3 : tn 0 z3.heap := T.keep _ _ _ at2 fun b _ o e => hz3 ▸ Heap.get?_push_of_some _ e
  have J4 := block_start J3 bk nd fr3
  rw [e3]
  have pg := pgs z3 H3 z3.heap.objs.size (cellsFrom (z3.heap.objs.size + 1) scope.names (cloFrom X.env.cells scope.names [])) fp
  have pt := pts z3 H3 z3.heap.objs.size (cellsFrom (z3.heap.objs.size + 1) scope.names (cloFrom X.env.cells scope.names [])) fp
  have pe := pes z3 H3 z3.heap.objs.size (cellsFrom (z3.heap.objs.size + 1) scope.names (cloFrom X.env.cells scope.names [])) fp
  obtain ⟨ce, ece⟩ : ∃ ce, compEnvC scope (cellsFrom (z3.heap.objs.size + 1) scope.names (cloFrom X.env.cells scope.names [])) z3.heap.objs.size X.env = ce := ⟨_, rfl⟩
  obtain ⟨z4, ez4⟩ : ∃ z4 : Shared, { z3 with heap := pushCells (z3.heap.push { cls := .type "dict", data := .dict #[] }) scope.names } = z4 := ⟨_, rfl⟩
  show codeAny _ _ (.compStart _ 0 (.ref it) (.ref D) (compEnvC scope (cellsFrom (z3.heap.objs.size + 1) scope.names (cloFrom X.env.cells scope.names [])) z3.heap.objs.size X.env)) (compPost _ _ _ none Qf (.ref D) z3.heap.objs.size) { z3 with heap := pushCells (z3.heap.push { cls := .type "dict", data := .dict #[] }) scope.names }
  rw [ece] at J4 pg pt pe ⊢
  rw [ez4] at J4 ⊢
  have home : ce.locals = z3.heap.objs.size := by rw [← ece]; rfl
  have at4 : tn 0 z4.heap := T.keep _ _ _ at3 fun b _ o e => ez4 ▸ pushCells_keeps _ _ _ _ (Heap.get?_push_of_some _ e)
  have still : ∀ {σ' : L2.St} {H' : Hp} {z : Shared}, Inv (X.blk z3 H3 scope ce fp) [] σ' H' z → (∀ b ∈ fp, H' b = none) → ∀ b ∈ fp, FpOk (X.blk z3 H3 scope ce fp) [] H' b := fun {σ' H' z} K free b hb =>
    ⟨free b hb, (K.ok.exf b hb).1, K.ok.exfs b hb, .inl hb, fun x c => (K.ok.exf b hb).2 x c, fun p hp => (List.not_mem_nil (show p ∈ ([] : List (Addr × Obj)) from by simpa using hp)).elim⟩
  suffices lp : codeAny (model X.prog X.w) X.A (.compLoop (.SetComp elt [⟨tg, iter, ifs, 0⟩] scope pos) 0 (.ref it) (.ref D) ce) (compPost (model X.prog X.w) X.A X.xe none Qf (.ref D) z3.heap.objs.size) z4 by
    exact PpSet.codeAny_compStart_set lp (T.self X.A 0 _ _ _ at4 lp)
  refine PpSet.compLoopS_any (fun n z => ∃ i H', Inv (X.blk z3 H3 scope ce fp) [] (wipe σ (own.map (·.2))) H' z ∧ tn i z.heap ∧ (∀ b ∈ fp, H' b = none) ∧ W i n H') ?_ m0 ⟨0, H3, J4, at4, fun b hb => (fr3 b hb).1.1, w0⟩
  rintro n z5 ⟨i, H5, J5, at5, free5, w5⟩
  rcases turn i n H5 w5 with ⟨stop, S, k, hS, qq⟩ | ⟨more, Nx, down, step⟩
  · refine thnF (T.done (X.blk z3 H3 scope ce fp) rfl rfl rfl cm i [] z5 _ H5 (fun _ _ => False) J5 (still J5 free5) at5 stop) fun r z6 ⟨er, J6⟩ => ?_
    subst er
    have J7 : Inv X pins σ H5 z6 := J3.call' (ch := fp) J6.os J6.base J6.hok J6.bare fun b hb => ⟨(fr3 b hb).1.2.2.2.1, (fr3 b hb).1.2.1, (fr3 b hb).1.2.2.2.2.1, (fr3 b hb).1.2.2.2.2.2⟩
    have gone : H5 ce.locals = none := J6.free
    obtain ⟨m, hm, _⟩ := J6.loc
    replace hm : z6.heap.Ns ce.locals m := hm
    rw [home] at gone hm
    exact out D _ z6 m H5 S k J7 hS qq hm (J3.fpOk (Nat.le_refl _) gone)
  · refine thnF (T.item (X.blk z3 H3 scope ce fp) rfl rfl rfl cm i [] z5 _ H5 (fun _ _ => False) J5 (still J5 free5) at5 more) fun r z6 ⟨u, er, k6⟩ => ?_
    subst er
    refine thnF k6 fun _ z7 ⟨x, H7, J7, r7, y7, at7, free7⟩ => ?_
    refine thnF (pg.run _ z7 _ H7 x u _ (J7.pinned (still J7 free7) (T.obj _ _ at7)) r7 (step x H7 y7)) fun _ z8 ⟨σ8, H8, J8, same8, k8⟩ => ?_
    refine thnF (pt.run _ z8 σ8 H8 _ J8 k8) fun b z9 ⟨H9, J9, k9⟩ => ?_
    have again : ∀ {z : Shared} {H' : Hp}, Inv (X.blk z3 H3 scope ce fp) ([] ++ pinsAt fp z7.heap) σ8 H' z → Nx H' → ∃ m, m < n ∧ ∃ i H', Inv (X.blk z3 H3 scope ce fp) [] (wipe σ (own.map (·.2))) H' z ∧ tn i z.heap ∧ (∀ b ∈ fp, H' b = none) ∧ W i m H' := fun {z H'} K nx => by
      obtain ⟨m', lt, w'⟩ := down H' nx
      have held : ∀ b ∈ fp, ∀ o, z7.heap.get? b = some o → z.heap.get? b = some o ∧ H' b = none := fun b hb o e => by
        have := K.pin (b, o) (List.mem_append_right _ (List.mem_append_right _ (mem_pinsAt hb e)))
        exact ⟨this.1, this.2.1⟩
      refine ⟨m', lt, i + 1, H', (K.unpinned (pins := [])).weak (by rw [← same8, wipe_length]) (fun j v e => ?_), T.keep _ _ _ at7 fun b hb o e => (held b hb o e).1, fun b hb => ?_, w'⟩
      · rw [← same8] at e; exact (wipe_some e).1
      · obtain ⟨o, e, _⟩ := T.obj _ _ at7 b hb
        exact (held b hb o e).2
    cases b with
    | false =>
      simp only [Bool.false_eq_true, if_false] at k9 ⊢
      exact again J9 k9
    | true =>
      simp only [if_true] at k9 ⊢
      refine thnF (pe.run _ z9 σ8 H9 _ J9 k9) fun v z10 ⟨yv, H10, J10, r10, c, S, k, ey, hS, few, nx⟩ => ?_
      subst ey
      exact addI (X := X.blk z3 H3 scope ce fp) J10 r10 hS few fun z11 J11 _ => again J11 nx
theorem pe_lenSc {X : Cx} {elt tg iter : Expr} {ifs : List Expr} {scope : Scope} {own : List (PySem.Str × Nat)} {pos p cpos : Pos} {wi : TI} {g : TG} {tt : TT} {te : TE} (gl : Gl X "len") (mm : X.mg "len" = none) (_bt : True) (cm : X.calm = true) (nd : X.N.Nodup) (pit : PI X tg iter wi) (bk : BlkOk X.N X.env.scope scope own)
    (pgs : ∀ (s : Shared) (H : Hp) (C : Addr) (cl : List (PySem.Str × Addr)) (fp : List Addr), PG (X.blk s H scope (compEnvC scope cl C X.env) fp) tg g) (pts : ∀ (s : Shared) (H : Hp) (C : Addr) (cl : List (PySem.Str × Addr)) (fp : List Addr), PTs (X.blk s H scope (compEnvC scope cl C X.env) fp) ifs tt)
    (pes : ∀ (s : Shared) (H : Hp) (C : Addr) (cl : List (PySem.Str × Addr)) (fp : List Addr), PE (X.blk s H scope (compEnvC scope cl C X.env) fp) elt te) (nofold : ∀ x, foldedSetIterable iter X.env x = pure x := by intro _; rfl) :
    PE X (.Call (.Name "len" p) [.SetComp elt [⟨tg, iter, ifs, 0⟩] scope pos] [] cpos) (tLenSc wi g tt te (own.map (·.2))) := by
  refine ⟨fun pins s σ H Q I hq => Call_ (ld_blt I gl mm boot_len ?_)⟩
  refine PyProof.Rows.callWith_builtin1 (PyProof.Rows.args_cons ?_ rfl) rfl rfl
  rw [PpSet.eval_SetComp]
  refine lenSc_core cm nd I pit bk pgs pts pes nofold hq fun D C z m H' S n J hS q hm f => ⟨m, hm, fun h'' sb => ?_⟩
  obtain ⟨f0, f1, f2, f3, f4, f5⟩ := f
  have J2 : Inv X pins σ H' { z with heap := h'' } := J.turned (t' := z.toks) (fun b o hb e => (sb.2 b hb).trans e) f0 f1 f3 f4 f5
  refine PyProof.Rows.args_nil ?_
  have R := setO_get J2 hS
  obtain ⟨o, es, ep, t, ho, hex, hd, _, _, _, hsz, hf, hn, _⟩ := R
  subst hn
  exact call_len_set ho hex hd hf (by unfold scanBound at hsz; omega) ⟨.int (es.size : Int), H', J2.tok _, ⟨_, rfl⟩, q⟩
end L2.Z

set_option Elab.async false
set_option linter.all false
set_option maxRecDepth 100000
set_option maxHeartbeats 2000000
namespace L2.Z
open PySem PySem.Spec PyProof.Rows
/-! zip of a list and a tuple, and of a tuple and a list -/
def SqB : Bool → PySem.W.Frag → Hp → Addr → List V → Prop
  | true => SqL
  | false => SqT
def IterB : Bool → Heap → Addr → Addr → Nat → Prop
  | true => fun h it a i => h.IsListIter it a i
  | false => fun h it a i => h.IsTupleIter it a i
def SeqB : Bool → Heap → Addr → Array Value → Prop
  | true => fun h a its => h.IsList a its
  | false => fun h a its => h.IsTuple a its
theorem IterB.live {b : Bool} {h : Heap} {it a : Addr} {i : Nat} (x : IterB b h it a i) : ∃ o, h.get? it = some o ∧ ∀ v, o.data ≠ .seq v ∧ True := by
  cases b <;> (obtain ⟨o, e, _, d⟩ := x; exact ⟨o, e, fun v => ⟨fun q => (by rw [d] at q; cases q), trivial⟩⟩)
theorem drawsB {P : Program} {w : World} {A : Around} {it a : Addr} (b : Bool) (hh : A.handled = none) (ne : a ≠ it) (its : Array Value) : Draws P w A it [it, a] its.size (fun i v => its[i]? = some v) (fun i h => IterB b h it a i ∧ SeqB b h a its) := by
  cases b
  · exact Draws.tuple hh it a ne its
  · exact Draws.list hh it a ne its
theorem seqB {X : Cx} {pins : List (Addr × Obj)} {σ : L2.St} {H : Hp} {s : Shared} {a : Addr} {xs : List V} (b : Bool) (J : Inv X pins σ H s) (q : SqB b X.K H a xs) : ∃ its : List Value, Vals xs its ∧ SeqB b s.heap a its.toArray ∧ a < s.heap.objs.size := by
  cases b
  · obtain ⟨its, rv, p, _⟩ := J.tuple q
    obtain ⟨o, ho, _⟩ := id p
    exact ⟨its, rv, p, Heap.lt_size ho⟩
  · obtain ⟨its, rv, p, _⟩ := J.list q
    exact ⟨its, rv, p.isList, p.lt⟩
theorem injB {X : Cx} {pins : List (Addr × Obj)} {σ : L2.St} {H : Hp} {s : Shared} {a : Addr} {xs ys : List V} (b : Bool) (J : Inv X pins σ H s) (q : SqB b X.K H a xs) (q2 : SqB b X.K H a ys) : xs = ys := by
  cases b
  · exact J.tuple_inj q q2
  · exact J.list_inj q q2
def ItzB (b1 b2 : Bool) (K : PySem.W.Frag) (a b : Addr) : It where
  go i H := ∃ (xs ys : List V) (x y : V), SqB b1 K H a xs ∧ SqB b2 K H b ys ∧ xs[i]? = some x ∧ ys[i]? = some y
  yld i H v H' := ∃ T x y, v = .ref T ∧ H T = none ∧ H' = upd H T (.tup [x, y]) ∧ (∀ xs, SqB b1 K H a xs → xs[i]? = some x) ∧ ∀ ys, SqB b2 K H b ys → ys[i]? = some y
  stop i H := ∃ xs ys : List V, SqB b1 K H a xs ∧ SqB b2 K H b ys ∧ xs.length ≥ i ∧ ys.length ≥ i ∧ (xs.length = i ∨ ys.length = i)
structure Zp5 (z TI TO i1 i2 a b : Addr) : Prop where
  q1 : TI ≠ z
  q2 : TO ≠ z
  q3 : TI ≠ TO
  q4 : TI ≠ i1
  q5 : TI ≠ i2
  q6 : z ≠ i1
  q7 : z ≠ a
  q8 : TO ≠ i1
  q9 : TO ≠ a
  q10 : z ≠ i2
  q11 : z ≠ b
  q12 : TO ≠ i2
  q13 : TO ≠ b
  q14 : i1 ≠ i2
  q15 : i1 ≠ b
  q16 : i2 ≠ a
  q17 : a ≠ i1
  q18 : b ≠ i2
theorem Zp5.sep {z TI TO i1 i2 a b : Addr} (D : Zp5 z TI TO i1 i2 a b) : ZipSep2 z TI TO i1 i2 [i1, a] [i2, b] :=
  ⟨D.q1, D.q2, D.q3, D.q4, List.mem_cons_self, by simp [D.q6, D.q7], by simp [D.q8, D.q9], D.q5, List.mem_cons_self, by simp [D.q10, D.q11], by simp [D.q12, D.q13], by simp [D.q14, D.q15], by simp [D.q14.symm, D.q16]⟩
theorem turn_zipB {P : Program} {w : World} {K : PySem.W.Frag} {elts : List Expr} {kk : Nat} {tpos : Pos} (b1 b2 : Bool) {z TI TO i1 i2 a b : Addr} (D : Zp5 z TI TO i1 i2 a b) : Turn P w K (.Tuple elts kk tpos) (ItzB b1 b2 K a b) [z, TI, TO, i1, i2] z
    (fun i h => IsZip h z TI TO .none ∧ IsPair h TI (.ref i1) (.ref i2) ∧ (∃ x y, IsPair h TO x y) ∧ IterB b1 h i1 a i ∧ IterB b2 h i2 b i) where
  mem := List.mem_cons_self
  obj := fun i h ⟨hz, hI, ⟨x, y, hO⟩, s1, s2⟩ c hc => by
    simp only [List.mem_cons, List.not_mem_nil, or_false] at hc
    rcases hc with e | e | e | e | e <;> subst e
    · exact ⟨_, hz, fun v q => nomatch q⟩
    · exact ⟨_, hI, fun v q => nomatch q⟩
    · exact ⟨_, hO, fun v q => nomatch q⟩
    · cases b1 <;> (obtain ⟨o, e, _, d⟩ := s1; exact ⟨o, e, fun v q => by rw [d] at q; cases q⟩)
    · cases b2 <;> (obtain ⟨o, e, _, d⟩ := s2; exact ⟨o, e, fun v q => by rw [d] at q; cases q⟩)
  keep := fun i h h' ⟨hz, hI, ⟨x, y, hO⟩, s1, s2⟩ k => by
    refine ⟨k z (by simp) _ hz, k TI (by simp) _ hI, ⟨x, y, k TO (by simp) _ hO⟩, ?_, ?_⟩
    · cases b1 <;> exact s1.at fun o q => k i1 (by simp) o q
    · cases b2 <;> exact s2.at fun o q => k i2 (by simp) o q
  item := by
    intro X eP ew eK cm i pins s σ H EE I free ⟨hz, hI, ⟨x0, y0, hO⟩, s1, s2⟩ ⟨xs, ys, x, y, qx, qy, hx, hy⟩
    subst eP ew eK
    obtain ⟨l1, v1, p1, _⟩ := seqB b1 I qx
    obtain ⟨l2, v2, p2, _⟩ := seqB b2 I qy
    obtain ⟨u, hu, ru⟩ := v1.get hx
    obtain ⟨v, hv, rv⟩ := v2.get hy
    have zl : z < s.heap.objs.size := Heap.lt_size hz
    have g1 : i < l1.toArray.size := by simpa using (List.getElem?_eq_some_iff.mp hu).1
    have g2 : i < l2.toArray.size := by simpa using (List.getElem?_eq_some_iff.mp hv).1
    have hd := I.ok.hd cm
    refine wpAny_pyNext_zipD2_item D.sep (drawsB (A := X.A.in1) b1 hd D.q17 l1.toArray) (drawsB (A := X.A.in1) b2 hd D.q18 l2.toArray) hz hI hO ⟨s1, p1⟩ ⟨s2, p2⟩ g1 g2 fun c1 c2 h' tk e1 e2 z' O' t1 t2 hT _ hk => ?_
    obtain rfl : c1 = u := Option.some.inj (e1.symm.trans (by simpa using hu))
    obtain rfl : c2 = v := Option.some.inj (e2.symm.trans (by simpa using hv))
    refine ⟨_, rfl, wpAny_letOwnedTupleGo_zip (s := { s with heap := h', toks := tk }) z' fun h2 z2 sb => ?_⟩
    have kept : ∀ c o, c ∉ [z, TI, TO, i1, i2] → s.heap.get? c = some o → h2.get? c = some o := fun c o nc q => by
      simp only [List.mem_cons, List.not_mem_nil, or_false, not_or] at nc
      exact (sb.2 c nc.1).trans (hk c o nc.1 nc.2.2.1 nc.2.2.2.1 nc.2.2.2.2 q)
    have there : h2.get? s.heap.objs.size = some { cls := .type "tuple", data := .seq #[c1, c2] } := (sb.2 _ (Nat.ne_of_gt zl)).trans hT
    have J : Inv X pins σ (upd H s.heap.objs.size (.tup [x, y])) { s with heap := h2, toks := tk } :=
      I.turnedNew (ch := [z, TI, TO, i1, i2]) kept free (Nat.le_refl _) ⟨by show 2 ≤ sizeLine; decide, [c1, c2], .cons ru (.cons rv .nil), ⟨_, there, rfl, _, rfl⟩⟩
    refine ⟨.ref s.heap.objs.size, _, J, rfl, ⟨_, x, y, rfl, I.hok.fresh (Nat.le_refl _), rfl, fun l hl => injB b1 I hl qx ▸ hx, fun l hl => injB b2 I hl qy ▸ hy⟩, ⟨z2, (sb.2 _ D.q1).trans (hk _ _ D.q1 D.q3 D.q4 D.q5 hI), ⟨c1, c2, (sb.2 _ D.q2).trans O'⟩, ?_, ?_⟩, fun c hc => ?_⟩
    · have := t1.1
      cases b1 <;> exact this.at fun o q => (sb.2 _ D.q6.symm).trans q
    · have := t2.1
      cases b2 <;> exact this.at fun o q => (sb.2 _ D.q10.symm).trans q
    · have lt : c < s.heap.objs.size := by
        simp only [List.mem_cons, List.not_mem_nil, or_false] at hc
        rcases hc with e | e | e | e | e <;> subst e
        · exact zl
        · exact Heap.lt_size hI
        · exact Heap.lt_size hO
        · cases b1 <;> (obtain ⟨o, e, _⟩ := s1; exact Heap.lt_size e)
        · cases b2 <;> (obtain ⟨o, e, _⟩ := s2; exact Heap.lt_size e)
      rw [upd_ne (Nat.ne_of_lt lt)]
      exact (free c hc).1
  done := by
    intro X eP ew eK cm i pins s σ H EE I free ⟨hz, hI, ⟨x0, y0, hO⟩, s1, s2⟩ ⟨xs, ys, qx, qy, le1, le2, stop⟩
    subst eP ew eK
    obtain ⟨l1, v1, p1, _⟩ := seqB b1 I qx
    obtain ⟨l2, v2, p2, _⟩ := seqB b2 I qy
    have e1 := v1.length
    have e2 := v2.length
    have hd := I.ok.hd cm
    refine wpAny_pyNext_zipD2_end D.sep (drawsB (A := X.A.in1) b1 hd D.q17 l1.toArray) (drawsB (A := X.A.in1) b2 hd D.q18 l2.toArray) hz hI hO ⟨s1, p1⟩ ⟨s2, p2⟩ (by simp; omega) (by simp; omega) (by simp; omega) fun h' tk hk => ?_
    refine ⟨rfl, I.turnedL (t' := tk) (ch := [z, TI, TO, i1, i2]) (fun c o nc q => ?_) free⟩
    simp only [List.mem_cons, List.not_mem_nil, or_false, not_or] at nc
    exact hk c o nc.1 nc.2.2.1 nc.2.2.2.1 nc.2.2.2.2 q
  self := fun _ _ _ _ _ st h => wpAny_pyIter_zip st.1 h
def begO (b : Bool) (a : Addr) : Obj := { cls := .type (if b then "list_iterator" else "tuple_iterator"), data := .fields #[.ref a, .int 0 0] }
theorem beginsB (b : Bool) (a : Addr) (its : Array Value) : Begins (.ref a) (begO b a) fun h => SeqB b h a its := by
  cases b
  · exact begins_tuple a its
  · exact begins_list a its
def iZipX (K : PySem.W.Frag) (ta : TA) : TI := fun σ H R => ta σ H fun vs H1 => ∃ b1 b2 a b xs ys, vs = [.ref a, .ref b] ∧ SqB b1 K H1 a xs ∧ SqB b2 K H1 b ys ∧ R (ItzB b1 b2 K a b) H1
theorem pi_zipX {X : Cx} {e e2 : Expr} {ta : TA} {p pos tpos : Pos} {elts : List Expr} {kk : Nat} (gl : Gl X "zip") (mm : X.mg "zip" = none) (ha : PA X [e, e2] ta) (hs : starEach [e, e2] X.env = (false, eval e X.env) :: starEach [e2] X.env := by rfl) (pl : (backTo pos (starEach [e2] X.env)).any (·.1) = false := by rfl) :
    PI X (.Tuple elts kk tpos) (.Call (.Name "zip" p) [e, e2] [] pos) (iZipX X.K ta) := by
  refine ⟨fun pins s σ H R I h => Call_ (ld_blt I gl mm boot_zip (callWith_type1 (thn (ha.run pos pins s σ H _ I h) fun us s1 ⟨vs, H1, J, rs, b1, b2, a, b, xs, ys, ev, qx, qy, q⟩ => ?_) hs pl))⟩
  subst ev
  obtain _ | ⟨ra, _ | ⟨rb, rn⟩⟩ := rs
  cases rn
  cases ra
  cases rb
  obtain ⟨l1, v1, p1, m1⟩ := seqB b1 J qx
  obtain ⟨l2, v2, p2, m2⟩ := seqB b2 J qy
  have n1 : a ≠ s1.heap.objs.size := Nat.ne_of_lt m1
  refine zip_begins2 (beginsB b1 a l1.toArray) (beginsB b2 b l2.toArray) p1 p2 fun h' hz hI hO g1 g2 _ hk => wpAny_pyIter_zip hz ?_
  refine ⟨s1.heap.objs.size + 4, [s1.heap.objs.size + 4, s1.heap.objs.size + 2, s1.heap.objs.size + 3, s1.heap.objs.size, s1.heap.objs.size + 1], _, _, H1, rfl, J.kept (t' := s1.toks) hk, turn_zipB b1 b2 ?_, ⟨hz, hI, ⟨_, _, hO⟩, ?_, ?_⟩, fun c hc => ?_, q⟩
  · generalize s1.heap.objs.size = n at *
    constructor <;> first
      | (apply Nat.ne_of_gt; omega)
      | (apply Nat.ne_of_lt; omega)
      | (apply Nat.ne_of_gt; exact Nat.lt_add_right _ m1)
      | (apply Nat.ne_of_gt; exact Nat.lt_add_right _ m2)
      | (apply Nat.ne_of_lt; exact Nat.lt_add_right _ m1)
      | (apply Nat.ne_of_lt; exact Nat.lt_add_right _ m2)
      | exact Nat.ne_of_lt m1
      | exact Nat.ne_of_lt m2
      | exact Nat.ne_of_gt m1
      | exact Nat.ne_of_gt m2
  · cases b1 <;> exact ⟨_, g1, rfl, rfl⟩
  · cases b2 <;> exact ⟨_, g2, rfl, rfl⟩
  · have ge : s1.heap.objs.size ≤ c := by
      simp only [List.mem_cons, List.not_mem_nil, or_false] at hc
      rcases hc with e | e | e | e | e <;> subst e
      · exact Nat.le_add_right _ _
      · exact Nat.le_add_right _ _
      · exact Nat.le_add_right _ _
      · exact Nat.le_refl _
      · exact Nat.le_add_right _ _
    exact J.fpOk ge (J.hok.fresh ge)
theorem z_izipX {K : PySem.W.Frag} {σ : L2.St} {H : Hp} {tl : TA} {R : It → Hp → Prop} : iZipX K tl σ H R = tl σ H fun vs H1 => ∃ b1 b2 a b xs ys, vs = [.ref a, .ref b] ∧ SqB b1 K H1 a xs ∧ SqB b2 K H1 b ys ∧ R (ItzB b1 b2 K a b) H1 := rfl
/-- a loop over them -/
theorem for_zB {K : PySem.W.Frag} {b1 b2 : Bool} {a b : Addr} {xs ys : List V} {g : TG} {tb : TS} {D : Ends} {σ : L2.St} {H : Hp} {n : Nat} (hn : n = min xs.length ys.length) (Pv : Nat → L2.St → Hp → Prop) (h0 : Pv 0 σ H) (hl : ∀ i σ H, Pv i σ H → SqB b1 K H a xs ∧ SqB b2 K H b ys)
    (hs : ∀ (i : Nat) (x y : V) (T : Addr) (σ : L2.St) (H : Hp), xs[i]? = some x → ys[i]? = some y → Pv i σ H → H T = none → ∀ N : L2.St → Hp → Prop, (∀ σ' H', Pv (i + 1) σ' H' → N σ' H') → g (.ref T) σ (upd H T (.tup [x, y])) fun σ2 H2 => tb { D with nx := N, ct := N, bk := D.nx } σ2 H2) (hd : ∀ σ H, Pv n σ H → D.nx σ H) : ForW (ItzB b1 b2 K a b) H g tb D σ := by
  refine ⟨fun k m σ H => m + k = n ∧ Pv k σ H, ⟨n, by omega, h0⟩, ?_⟩
  rintro i m σ H ⟨em, p⟩
  obtain ⟨qx, qy⟩ := hl i σ H p
  by_cases hlt : i < n
  · have l1 : i < xs.length := by omega
    have l2 : i < ys.length := by omega
    refine .inr ⟨⟨xs, ys, _, _, qx, qy, List.getElem?_eq_getElem l1, List.getElem?_eq_getElem l2⟩, Pv (i + 1), fun σ' H' p' => ⟨n - (i + 1), by omega, by omega, p'⟩, fun v H' y => ?_⟩
    obtain ⟨T, x', y', rfl, hT, rfl, f1, f2⟩ := y
    exact hs i x' y' T σ H (f1 xs qx) (f2 ys qy) p hT _ fun _ _ h => h
  · obtain rfl : i = n := by omega
    exact .inl ⟨⟨xs, ys, qx, qy, by omega, by omega, by omega⟩, hd σ H p⟩
theorem sqB_same {b : Bool} {K : PySem.W.Frag} {H : Hp} {a : Addr} {xs : List V} (h : H a = some (if b then .lst xs else .tup xs)) : SqB b K H a xs := by
  cases b
  · exact .inl (.inl h)
  · exact .inl (.inl h)
/-- a comprehension over them, with an invariant of one's own -/
theorem comp_zB {K : PySem.W.Frag} {b1 b2 : Bool} {a b : Addr} {xs ys : List V} {g : TG} {tt : TT} {te : TE} {vs : List Nat} {σ : L2.St} {H1 : Hp} {Q : VK} {n : Nat} (hn : n = min xs.length ys.length) (Pv : Addr → Nat → Hp → Prop) (h0 : ∀ D, H1 D = none → Pv D 0 (upd H1 D (.lst []))) (hl : ∀ D i H, Pv D i H → SqB b1 K H a xs ∧ SqB b2 K H b ys)
    (turn : ∀ D i x y T H', H1 D = none → xs[i]? = some x → ys[i]? = some y → Pv D i H' → H' T = none → g (.ref T) (wipe σ vs) (upd H' T (.tup [x, y])) fun σ2 H2 => wipe σ2 vs = wipe σ vs ∧ tt σ2 H2 fun b H3 => if b = true then te σ2 H3 fun y H4 => OutOf D (Pv D (i + 1)) (some y) H4 else Pv D (i + 1) H3)
    (fin : ∀ D H', H1 D = none → Pv D n H' → Q (.ref D) H') : LcW (ItzB b1 b2 K a b) H1 g tt te vs σ Q := fun D hD => by
  refine ⟨fun i m H => m + i = n ∧ Pv D i H, ⟨n, by omega, h0 D hD⟩, ?_⟩
  rintro i m H ⟨em, p⟩
  obtain ⟨qx, qy⟩ := hl D i H p
  by_cases hlt : i < n
  · have l1 : i < xs.length := by omega
    have l2 : i < ys.length := by omega
    refine .inr ⟨⟨xs, ys, _, _, qx, qy, List.getElem?_eq_getElem l1, List.getElem?_eq_getElem l2⟩, Pv D (i + 1), fun H' p' => ⟨n - (i + 1), by omega, by omega, p'⟩, fun v H' y => ?_⟩
    obtain ⟨T, x', y', rfl, hT, rfl, f1, f2⟩ := y
    exact turn D i x' y' T H hD (f1 xs qx) (f2 ys qy) p hT
  · obtain rfl : i = n := by omega
    exact .inl ⟨⟨xs, ys, qx, qy, by omega, by omega, by omega⟩, fin D H hD p⟩
end L2.Z

set_option Elab.async false
set_option linter.all false
set_option maxRecDepth 100000
set_option maxHeartbeats 2000000
namespace L2.Z
open PySem PySem.Spec PyProof.Rows
/-! going through a list or a tuple -/
def ItB (b : Bool) (K : PySem.W.Frag) (a : Addr) : It := match b with
  | true => Itl K a
  | false => Itt K a
def iSeqB (K : PySem.W.Frag) (tl : TE) : TI := fun σ H R => tl σ H fun x H1 => ∃ (a : Addr) (b : Bool), x = .ref a ∧ (∃ xs, SqB b K H1 a xs) ∧ R (ItB b K a) H1
theorem pi_seqB {X : Cx} {tg l : Expr} {tl : TE} (hl : PE X l tl) : PI X tg l (iSeqB X.K tl) := by
  refine ⟨fun pins s σ H R I h => thn (hl.run pins s σ H _ I h) fun v s1 ⟨x, H1, J, r, a, b, e, ⟨xs, hq⟩, q⟩ => ?_⟩
  subst e
  cases r
  have room : ∀ z ∈ [s1.heap.objs.size], _ := fun z hz => by
    obtain rfl := List.mem_singleton.mp hz
    exact J.fpOk (Nat.le_refl _) (J.hok.fresh (Nat.le_refl _))
  cases b with
  | true =>
    obtain ⟨its, rv, p, _⟩ := J.list hq
    exact wpAny_pyIter_list p.isList ⟨s1.heap.objs.size, [s1.heap.objs.size], _, _, H1, rfl, J.kept (t' := s1.toks) fun z o e => Heap.get?_push_of_some _ e, turn_list a _, ⟨_, Heap.get?_push_size _ rfl, rfl, rfl⟩, room, q⟩
  | false =>
    obtain ⟨its, rv, p, _⟩ := J.tuple hq
    have p2 : s1.heap.IsTuple a its.toArray := p
    exact wpAny_pyIter_tuple p2 ⟨s1.heap.objs.size, [s1.heap.objs.size], _, _, H1, rfl, J.kept (t' := s1.toks) fun z o e => Heap.get?_push_of_some _ e, turn_tuple a _, ⟨_, Heap.get?_push_size _ rfl, rfl, rfl⟩, room, q⟩
theorem z_iseqB {K : PySem.W.Frag} {tl : TE} {σ : L2.St} {H : Hp} {R : It → Hp → Prop} : iSeqB K tl σ H R = tl σ H fun x H1 => ∃ (a : Addr) (b : Bool), x = .ref a ∧ (∃ xs, SqB b K H1 a xs) ∧ R (ItB b K a) H1 := rfl
end L2.Z

set_option Elab.async false
set_option linter.all false
set_option maxRecDepth 100000
set_option maxHeartbeats 2000000
namespace L2.Z
open PySem PySem.Spec PyProof.Rows RT
/-! a list's item changed where it stands: a[i] op= e -/
def rGetN (K : PySem.W.Frag) : V → V → Hp → VK → Prop := fun o i H Q => ∃ (p : Addr) (xs : List V) (k : Nat) (v : V), o = .ref p ∧ i = .int (k : Int) ∧ SqL K H p xs ∧ xs[k]? = some v ∧ Q v H
theorem get_listN {X : Cx} : PGet X (rGetN X.K) := by
  intro pins s σ H x y v u Q I rx ry h
  obtain ⟨p, xs, k, z, rfl, rfl, hq, he, q⟩ := h
  cases rx
  obtain ⟨t, rfl⟩ := ry
  obtain ⟨its, r, pl, hz⟩ := I.list hq
  obtain ⟨w, ew, rw'⟩ := r.get he
  have hl := r.length
  have hn := line63
  have hk := (List.getElem?_eq_some_iff.mp he).1
  have fin : EP X pins σ Q w s := ⟨z, H, I, rw', q⟩
  exact getItem_listL pl.isList (by omega) (by omega) (by simpa using ew) fin
theorem z_augS {to ti te : TE} {tget : V → V → Hp → VK → Prop} {tip : TIp} {tset : TSet} {D : Ends} {σ : L2.St} {H : Hp} : tAugS to ti te tget tip tset D σ H = (to σ H fun o H1 => ti σ H1 fun i H2 => tget o i H2 fun x H3 => te σ H3 fun y H4 => tip x y H4 fun z H5 => tset o i z H5 fun H6 => D.nx σ H6) := rfl
theorem z_irevA {K : PySem.W.Frag} {te : TE} {σ : L2.St} {H : Hp} {R : It → Hp → Prop} : iRevA K te σ H R = te σ H fun v H1 => ∃ (a : Addr) (xs : List V), v = .ref a ∧ ((SqL K H1 a xs ∧ R (Itv K a xs.length) H1) ∨ (SqT K H1 a xs ∧ R (ItvT K a xs.length) H1)) := rfl
/-- for .. in reversed(a), a tuple -/
theorem for_RT {K : PySem.W.Frag} {a : Addr} {xs : List V} {g : TG} {tb : TS} {D : Ends} {σ : L2.St} {H : Hp} (Pv : Nat → L2.St → Hp → Prop) (h0 : Pv 0 σ H) (hl : ∀ i σ H, i ≤ xs.length → Pv i σ H → SqT K H a xs)
    (hs : ∀ i x σ H, i < xs.length → xs[xs.length - 1 - i]? = some x → Pv i σ H → ∀ N : L2.St → Hp → Prop, (∀ σ' H', Pv (i + 1) σ' H' → N σ' H') → g x σ H fun σ2 H2 => tb { D with nx := N, ct := N, bk := D.nx } σ2 H2) (hd : ∀ σ H, Pv xs.length σ H → D.nx σ H) : ForW (ItvT K a xs.length) H g tb D σ := by
  refine ⟨fun k m σ H => m + k = xs.length ∧ Pv k σ H, ⟨xs.length, by omega, h0⟩, ?_⟩
  rintro i m σ H ⟨em, p⟩
  have q := hl i σ H (by omega) p
  by_cases hlt : i < xs.length
  · have e := List.getElem?_eq_getElem (show xs.length - 1 - i < xs.length by omega)
    refine .inr ⟨⟨hlt, xs, _, q, e⟩, Pv (i + 1), fun σ' H' p' => ⟨xs.length - (i + 1), by omega, by omega, p'⟩, fun v H' y => ?_⟩
    obtain ⟨rfl, y⟩ := y
    exact hs i v σ _ hlt (y xs q) p _ fun _ _ h => h
  · obtain rfl : i = xs.length := by omega
    exact .inl ⟨Nat.le_refl _, hd σ H p⟩
/-- .. a list -/
theorem for_RL {K : PySem.W.Frag} {a : Addr} {xs : List V} {g : TG} {tb : TS} {D : Ends} {σ : L2.St} {H : Hp} (Pv : Nat → L2.St → Hp → Prop) (h0 : Pv 0 σ H) (hl : ∀ i σ H, i ≤ xs.length → Pv i σ H → SqL K H a xs)
    (hs : ∀ i x σ H, i < xs.length → xs[xs.length - 1 - i]? = some x → Pv i σ H → ∀ N : L2.St → Hp → Prop, (∀ σ' H', Pv (i + 1) σ' H' → N σ' H') → g x σ H fun σ2 H2 => tb { D with nx := N, ct := N, bk := D.nx } σ2 H2) (hd : ∀ σ H, Pv xs.length σ H → D.nx σ H) : ForW (Itv K a xs.length) H g tb D σ := by
  refine ⟨fun k m σ H => m + k = xs.length ∧ Pv k σ H, ⟨xs.length, by omega, h0⟩, ?_⟩
  rintro i m σ H ⟨em, p⟩
  have q := hl i σ H (by omega) p
  by_cases hlt : i < xs.length
  · have e := List.getElem?_eq_getElem (show xs.length - 1 - i < xs.length by omega)
    refine .inr ⟨⟨hlt, xs, _, q, e⟩, Pv (i + 1), fun σ' H' p' => ⟨xs.length - (i + 1), by omega, by omega, p'⟩, fun v H' y => ?_⟩
    obtain ⟨rfl, y⟩ := y
    exact hs i v σ _ hlt (y xs q) p _ fun _ _ h => h
  · obtain rfl : i = xs.length := by omega
    exact .inl ⟨Nat.le_refl _, hd σ H p⟩
/-- the value is this plain data of ints and tuples, as it stands in K -/
def ctOk (K : PySem.W.Frag) : Nat → PyData → Value → Bool
  | 0, _, _ => false
  | _ + 1, .int i, .int j _ => decide (i = j)
  | n + 1, .tuple ds, .ref a => (match K.lookup a with
    | some o => decide (o.cls = .type "tuple") && (match o.data with
      | .seq its _ => decide (its.size ≤ sizeLine) && (decide (its.size = ds.length) && (List.zip ds its.toList).all fun q => ctOk K n q.1 q.2)
      | _ => false)
    | none => false)
  | _ + 1, _, _ => false
theorem ct_all {K : PySem.W.Frag} {n : Nat} (ih : ∀ d v, ctOk K n d v = true → ∃ x, RelV x v ∧ ∀ H, Dp K H x d) : ∀ (ds : List PyData) (us : List Value), us.length = ds.length → ((List.zip ds us).all fun q => ctOk K n q.1 q.2) = true → ∃ xs, Vals xs us ∧ ∀ H, DpAll K H xs ds
  | [], [], _, _ => ⟨[], .nil, fun _ => .nil⟩
  | d :: ds, u :: us, hl, h => by
    rw [List.zip_cons_cons, List.all_cons, Bool.and_eq_true] at h
    obtain ⟨x, r, p⟩ := ih d u h.1
    obtain ⟨xs, rs, ps⟩ := ct_all ih ds us (by simpa using hl) h.2
    exact ⟨x :: xs, .cons r rs, fun H => .cons (p H) (ps H)⟩
  | [], _ :: _, hl, _ => by simp at hl
  | _ :: _, [], hl, _ => by simp at hl
theorem ct_dp {K : PySem.W.Frag} (n : Nat) : ∀ (d : PyData) (v : Value), ctOk K n d v = true → ∃ x, RelV x v ∧ ∀ H, Dp K H x d := by
  induction n with
  | zero => intro d v h; simp [ctOk] at h
  | succ n ih =>
    intro d v h
    cases d with
    | int i =>
      cases v with
      | int j t =>
        have h : decide (i = j) = true := h
        rw [decide_eq_true_eq] at h
        subst h
        exact ⟨.int _, ⟨_, rfl⟩, fun H => .int _⟩
      | _ => simp [ctOk] at h
    | tuple ds =>
      cases v with
      | ref a =>
        simp only [ctOk] at h
        cases ho : K.lookup a with
        | none => rw [ho] at h; simp at h
        | some o =>
          rw [ho] at h
          simp only [Bool.and_eq_true, decide_eq_true_eq] at h
          obtain ⟨h1, h2⟩ := h
          cases hd : o.data with
          | seq its m =>
            rw [hd] at h2
            simp only [Bool.and_eq_true, decide_eq_true_eq] at h2
            obtain ⟨h3, h4, h5⟩ := h2
            obtain ⟨xs, rs, ps⟩ := ct_all ih ds its.toList (by simpa using h4) h5
            exact ⟨.ref a, rfl, fun H => .tup (.inr ⟨o, its, m, ho, h1, hd, h3, rs⟩) (ps H)⟩
          | _ => rw [hd] at h2; simp at h2
      | _ => simp [ctOk] at h
    | _ => cases v <;> simp [ctOk] at h
/-- a constant of the module, by what stands there -/
def tCt (K : PySem.W.Frag) (d : PyData) : TE := fun _ H Q => ∀ x, (∀ H', Dp K H' x d) → Q x H
theorem pe_ct {X : Cx} {e : Expr} {a : Addr} {d : PyData} (h : PE X e (tC (.ref a))) (k : ctOk X.K 9 d (.ref a) = true) : PE X e (tCt X.K d) := by
  refine ⟨fun pins s σ H Q I hw => h.run pins s σ H Q I (hw (.ref a) fun H' => ?_)⟩
  obtain ⟨x, r, p⟩ := ct_dp 9 d _ k
  have e : x = .ref a := by
    cases x with
    | ref b =>
      have e : Value.ref a = Value.ref b := r
      cases e
      rfl
    | int i => obtain ⟨_, e⟩ := r; cases e
    | str i => obtain ⟨_, e⟩ := r; cases e
    | byt i => obtain ⟨_, e⟩ := r; cases e
    | flt i => obtain ⟨_, e⟩ := r; cases e
    | _ => cases r
  rw [← e]
  exact p H'
theorem z_ct {K : PySem.W.Frag} {d : PyData} {σ : L2.St} {H : Hp} {Q : VK} : tCt K d σ H Q = ∀ x, (∀ H', Dp K H' x d) → Q x H := rfl
theorem z_revL {K : PySem.W.Frag} {te : TE} {σ : L2.St} {H : Hp} {Q : VK} : tRevL K te σ H Q = te σ H fun x H1 => ∃ a xs, x = .ref a ∧ SqL K H1 a xs ∧ ∀ p, H1 p = none → Q (.ref p) (upd H1 p (.lst xs.reverse)) := rfl
end L2.Z

set_option Elab.async false
set_option linter.all false
set_option maxRecDepth 100000
set_option maxHeartbeats 2000000
namespace L2.Z
open PySem PySem.Spec PyProof.Rows
/-! == of a dict and a tuple -/
open PySem.SeqAt in
theorem tuple_eq_declines_dict (l b : Addr) (items : Array Value) (n : Nat) (dd : Option Addr) (sl : Array (Option Value)) (o : Obj) (hc : o.cls = .type "dict") :
    Meets (Builtin.«tuple.__eq__» ⟨[.ref l, .ref b], []⟩) (fun _ R s => s.heap.get? l = some { cls := .type "tuple", dict := dd, data := .seq items n, slots := sl } ∧ s.heap.get? b = some o ∧ R (.ok (.ret .notImplemented)) s) :=
  .of_wp fun prog w A R s h => by
    obtain ⟨hp, g, d, tk, os⟩ := s
    obtain ⟨hl, hb, h⟩ := h
    obtain ⟨cls, od, data, osl⟩ := o
    simp only at hc
    subst hc
    have f1 := F.sub_dict_tuple
    wp_walk using wpAny_loadPart' hl, wpAny_loadPart' hb; exact ⟨_, rfl, h⟩
open PySem.SeqAt in
theorem compare_dict_tuple {prog : Program} {w : World} {A : Around} {E : Value → Shared → Prop} {s : Shared} {a b : Addr} {K : Type} [DecidableEq K] {knd : KeyKind prog w K} {ka : List (K × Value)} {items : Array Value} {Q : Value → Shared → Prop}
    (da : s.heap.DictOf knd a ka) (hb : s.heap.IsTuple b items) (hu : A.units < cLine) (h : Q (.bool false) s) : wpAny (model prog w) A (compareOp .Eq (.ref a) (.ref b)) Q E s := by
  have td := da.typeIs
  obtain ⟨o, es, ep, ho, hx, hd, _⟩ := id da
  have hcl : o.cls = .type "dict" := hx.1
  obtain ⟨⟨cls2, dd2, data2, sl2⟩, ho2, hc2, n2, hd2⟩ := id hb
  simp only at hc2 hd2
  subst hc2 hd2
  have hne : a ≠ b := fun e => by
    subst e
    rw [ho] at ho2
    cases ho2
    exact absurd hcl (by simp)
  refine rc_eq_decline_or (k := false) td ⟨_, ho2, rfl⟩ (by decide) F.sub_tuple_dict PySem.F.slot_dict_eq F.slot_tuple_eq_refl (fun Q' hq => ?_)
    (fun _ hq => call_meets F.slot_tuple_eq_refl ⟨_, ho2, rfl⟩ F.entry_tuple_eq (F.args_tuple_eq_2 _ _) (tuple_eq_declines_dict b a items n2 dd2 sl2 o hcl) ⟨ho2, ho, hq⟩)
    (fun _ hq => wpAny_isSame_ref_other hne ho ho2 (by rw [hcl]; simp) hq) (.inr hu) h
  refine wpAny_call_entry PySem.F.slot_dict_eq td PySem.F.entry_dict_eq ?_ (PySem.F.args_dict_eq_2 _ _)
  show wpAny _ _ (Builtin.Dict.dictSlotArgs "__eq__" ⟨[.ref a, .ref b], []⟩ >>= _) _ _ s
  refine wpAny_bind ?_
  unfold Builtin.Dict.dictSlotArgs
  refine wpAny_bind (wpAny_notOrdered_dict td ?_)
  show wpAny _ _ (pure (Value.ref a, Value.ref b)) _ _ s
  refine wpAny_pure ?_
  refine wpAny_bind (wpAny_isInstance (T := "tuple") ⟨_, ho2, rfl⟩ PySem.F.sub_tuple_dict ?_)
  simp only [Bool.not_false, if_true]
  exact wpAny_bind (wpAny_rule (wpAny_pure ⟨_, rfl, hq⟩))
def rEqDT (K : PySem.W.Frag) : R2 := fun x y H Q => rEqD K x y H Q ∨ ∃ a b kvs ys, x = .ref a ∧ y = .ref b ∧ H a = some (.dK kvs) ∧ H b = some (.tup ys) ∧ Q (.bl false) H
theorem op_eqDT {X : Cx} (hu : X.A.units + 64 < cLine) : OpR X (compareOp .Eq) (rEqDT X.K) := by
  intro pins s σ H x y v u Q I rx ry h
  rcases h with h | ⟨a, b, kvs, ys, rfl, rfl, ha, hb, q⟩
  · exact op_eqD hu pins s σ H x y v u Q I rx ry h
  · obtain rfl : v = Value.ref a := rx
    obtain rfl : u = Value.ref b := ry
    obtain ⟨_, ya, va, ra, da⟩ := (show ObjOk X.prog X.w H s.heap a (.dK kvs) from I.hok a _ ha)
    obtain ⟨its, rv, p, _⟩ := I.tuple (a := b) (xs := ys) (.inl (.inl hb))
    exact compare_dict_tuple da p (by omega) ⟨.bl _, H, I, rfl, q⟩
end L2.Z
/-! Determinants of whole rows by their first row; exact division when rows are cleared without fractions. -/
namespace Lin
set_option autoImplicit false
set_option linter.unusedSimpArgs false

abbrev Row := Nat → Int

/-- the sum over the columns of `C`: sign, entry, and what `f` says of the columns that stay -/
def ex (f : List Nat → Int) (r : Row) : Int → List Nat → List Nat → Int
  | _, _, [] => 0
  | s, P, c :: C => s * r c * f (P ++ C) + ex f r (-s) (P ++ [c]) C

def det : List Row → List Nat → Int
  | [], [] => 1
  | [], _ :: _ => 0
  | r :: R, C => ex (det R) r 1 [] C

theorem ex_neg (f : List Nat → Int) (r : Row) : ∀ (C : List Nat) (s : Int) (P : List Nat), ex f r (-s) P C = - ex f r s P C
  | [], _, _ => by simp [ex]
  | c :: C, s, P => by
      simp only [ex, ex_neg f r C (-s) (P ++ [c])]
      grind

theorem ex_swap_pre (f : List Nat → Int) (r : Row) (a b : Nat)
    (hf : ∀ P S, f (P ++ a :: b :: S) = - f (P ++ b :: a :: S)) :
    ∀ (C : List Nat) (s : Int) (P Q : List Nat), ex f r s (P ++ a :: b :: Q) C = - ex f r s (P ++ b :: a :: Q) C
  | [], _, _, _ => by simp [ex]
  | c :: C, s, P, Q => by
      have h1 := ex_swap_pre f r a b hf C (-s) P (Q ++ [c])
      have h2 := hf P (Q ++ C)
      simp only [ex, List.append_assoc, List.cons_append] at *
      rw [h1, h2]; grind

theorem ex_swap (f : List Nat → Int) (r : Row) (a b : Nat)
    (hf : ∀ P S, f (P ++ a :: b :: S) = - f (P ++ b :: a :: S)) :
    ∀ (A : List Nat) (S : List Nat) (s : Int) (P : List Nat), ex f r s P (A ++ a :: b :: S) = - ex f r s P (A ++ b :: a :: S)
  | [], S, s, P => by
      have h := ex_swap_pre f r a b hf S (- -s) P []
      simp only [ex, List.nil_append, List.append_assoc, List.cons_append] at *
      rw [h]; grind
  | c :: A, S, s, P => by
      have h := ex_swap f r a b hf A S (-s) (P ++ [c])
      have h2 := hf (P ++ A) S
      simp only [ex, List.cons_append, List.append_assoc] at *
      rw [h, h2]; grind

theorem det_swap : ∀ (R : List Row) (P S : List Nat) (a b : Nat),
    det R (P ++ a :: b :: S) = - det R (P ++ b :: a :: S)
  | [], P, S, a, b => by cases P <;> simp [det]
  | r :: R, P, S, a, b => by
      simp only [det]
      exact ex_swap (det R) r a b (fun P S => det_swap R P S a b) P S 1 []

theorem det_two (R : List Row) (P S : List Nat) (a : Nat) : det R (P ++ a :: a :: S) = 0 := by
  have h := det_swap R P S a a; omega

theorem det_same (R : List Row) (a : Nat) : ∀ (S P : List Nat), det R (P ++ a :: (S ++ [a])) = 0
  | [], P => by simpa using det_two R P [] a
  | s :: S, P => by
      have h := det_swap R P (S ++ [a]) a s
      have h2 := det_same R a S (P ++ [s])
      simp only [List.append_assoc, List.cons_append, List.nil_append] at *
      rw [h, h2]; rfl

theorem det_mem (R : List Row) (C : List Nat) (a : Nat) (h : a ∈ C) : det R (C ++ [a]) = 0 := by
  obtain ⟨P, S, rfl⟩ := List.append_of_mem h
  simpa using det_same R a S P

/-- whole multiples of rows, added up at a column -/
def mix : List Int → List Row → Nat → Int
  | t :: T, r :: R, c => t * r c + mix T R c
  | _, _, _ => 0

theorem mix_add : ∀ (R : List Row) (T U : List Int), T.length = R.length → U.length = R.length →
    ∃ V : List Int, V.length = R.length ∧ ∀ c, mix V R c = mix T R c + mix U R c
  | [], T, U, _, _ => ⟨[], rfl, fun c => by cases T <;> cases U <;> simp_all [mix]⟩
  | r :: R, t :: T, u :: U, hT, hU => by
      obtain ⟨V, hV, h⟩ := mix_add R T U (by simpa using hT) (by simpa using hU)
      exact ⟨(t + u) :: V, by simp [hV], fun c => by simp only [mix, h]; grind⟩

theorem mix_mul (k : Int) : ∀ (R : List Row) (T : List Int), T.length = R.length →
    ∃ V : List Int, V.length = R.length ∧ ∀ c, mix V R c = k * mix T R c
  | [], T, _ => ⟨[], rfl, fun c => by cases T <;> simp_all [mix]⟩
  | r :: R, t :: T, hT => by
      obtain ⟨V, hV, h⟩ := mix_mul k R T (by simpa using hT)
      exact ⟨(k * t) :: V, by simp [hV], fun c => by simp only [mix, h]; grind⟩

theorem mix_zero : ∀ (R : List Row), ∃ V : List Int, V.length = R.length ∧ ∀ c, mix V R c = 0
  | [] => ⟨[], rfl, fun c => rfl⟩
  | r :: R => by
      obtain ⟨V, hV, h⟩ := mix_zero R
      exact ⟨0 :: V, by simp [hV], fun c => by simp [mix, h]⟩

theorem mix_mem : ∀ (R : List Row) (r : Row), r ∈ R → ∃ V : List Int, V.length = R.length ∧ ∀ c, mix V R c = r c
  | x :: R, r, h => by
      rcases List.mem_cons.1 h with rfl | h
      · obtain ⟨V, hV, h⟩ := mix_zero R
        exact ⟨1 :: V, by simp [hV], fun c => by simp [mix, h]⟩
      · obtain ⟨V, hV, h⟩ := mix_mem R r h
        exact ⟨0 :: V, by simp [hV], fun c => by simp [mix, h]⟩

/-- what the minors say of the columns ahead, and one column c at the end -/
theorem ex_last (f g : List Nat → Int) (r : Row) (R : List Row)
    (hf : ∀ C, ∃ T : List Int, T.length = R.length ∧ ∀ c, f (C ++ [c]) = mix T R c) :
    ∀ (C : List Nat) (s : Int) (P : List Nat),
      ∃ T : List Int, T.length = R.length ∧ ∃ t : Int, ∀ c, ex f r s P (C ++ [c]) = t * r c + mix T R c
  | [], s, P => by
      obtain ⟨T, hT, h⟩ := mix_zero R
      exact ⟨T, hT, s * f P, fun c => by simp only [List.nil_append, ex, h, List.append_nil]; grind⟩
  | x :: C, s, P => by
      obtain ⟨T, hT, t, h⟩ := ex_last f g r R hf C (-s) (P ++ [x])
      obtain ⟨U, hU, h2⟩ := hf (P ++ C)
      obtain ⟨U', hU', h2'⟩ := mix_mul (s * r x) R U hU
      obtain ⟨V, hV, h3⟩ := mix_add R T U' hT hU'
      refine ⟨V, hV, t, fun c => ?_⟩
      have h4 := h2 c
      simp only [List.append_assoc] at h4
      simp only [List.cons_append, ex, h, h3, h2', h4]; grind

theorem ex_lastx (f g : List Nat → Int) (r x : Row) (R : List Row)
    (hf : ∀ C, ∃ T : List Int, T.length = R.length ∧ ∀ c, f (C ++ [c]) = g C * x c + mix T R c) :
    ∀ (C : List Nat) (s : Int) (P : List Nat),
      ∃ T : List Int, T.length = R.length ∧ ∃ t : Int, ∀ c, ex f r s P (C ++ [c]) = t * r c + ex g r s P C * x c + mix T R c
  | [], s, P => by
      obtain ⟨T, hT, h⟩ := mix_zero R
      exact ⟨T, hT, s * f P, fun c => by simp only [List.nil_append, ex, h, List.append_nil]; grind⟩
  | y :: C, s, P => by
      obtain ⟨T, hT, t, h⟩ := ex_lastx f g r x R hf C (-s) (P ++ [y])
      obtain ⟨U, hU, h2⟩ := hf (P ++ C)
      obtain ⟨U', hU', h2'⟩ := mix_mul (s * r y) R U hU
      obtain ⟨V, hV, h3⟩ := mix_add R T U' hT hU'
      refine ⟨V, hV, t, fun c => ?_⟩
      have h4 := h2 c
      simp only [List.append_assoc] at h4
      simp only [List.cons_append, ex, h, h3, h2', h4]; grind

/-- the last row and the last column: the determinant ahead, times the entry, and whole multiples of the rows ahead -/
theorem det_last (x : Row) : ∀ (R : List Row) (C : List Nat),
    ∃ T : List Int, T.length = R.length ∧ ∀ c, det (R ++ [x]) (C ++ [c]) = det R C * x c + mix T R c
  | [], [] => ⟨[], rfl, fun c => by simp [det, ex, mix]⟩
  | [], c' :: C => by
      refine ⟨[], rfl, fun c => ?_⟩
      have h : ∀ (D : List Nat) (s : Int) (P : List Nat), (P ≠ [] ∨ 2 ≤ D.length) → ex (det []) x s P D = 0 := by
        intro D
        induction D with
        | nil => intros; rfl
        | cons d D ih =>
          intro s P hP
          have h1 : det [] (P ++ D) = 0 := by
            rcases P with _ | ⟨p, P⟩
            · rcases D with _ | ⟨e, D⟩
              · simp at hP
              · rfl
            · rfl
          simp only [ex, h1, ih (-s) (P ++ [d]) (Or.inl (by simp))]; simp
      have h1 := h (c' :: C ++ [c]) 1 [] (Or.inr (by simp))
      simp only [List.nil_append, det, h1, mix]; simp
  | r :: R, C => by
      obtain ⟨T, hT, t, h⟩ := ex_lastx (det (R ++ [x])) (det R) r x R (fun C => det_last x R C) C 1 []
      exact ⟨t :: T, by simp [hT], fun c => by simp only [List.cons_append, det, h, mix]; grind⟩


/-! rows cleared without fractions -/

def InSpan (R : List Row) (f : Row) : Prop := ∃ T : List Int, T.length = R.length ∧ ∀ c, f c = mix T R c

theorem InSpan.add {R : List Row} {f g : Row} (hf : InSpan R f) (hg : InSpan R g) : InSpan R (fun j => f j + g j) := by
  obtain ⟨T, hT, h⟩ := hf
  obtain ⟨U, hU, h2⟩ := hg
  obtain ⟨V, hV, h3⟩ := mix_add R T U hT hU
  exact ⟨V, hV, fun c => by show f c + g c = _; rw [h, h2, h3]⟩

theorem InSpan.mul {R : List Row} {f : Row} (k : Int) (hf : InSpan R f) : InSpan R (fun j => k * f j) := by
  obtain ⟨T, hT, h⟩ := hf
  obtain ⟨V, hV, h3⟩ := mix_mul k R T hT
  exact ⟨V, hV, fun c => by show k * f c = _; rw [h, h3]⟩

theorem InSpan.mem {R : List Row} {r : Row} (h : r ∈ R) : InSpan R r := by
  obtain ⟨V, hV, h3⟩ := mix_mem R r h
  exact ⟨V, hV, fun c => (h3 c).symm⟩

theorem mix_append : ∀ (R : List Row) (T : List Int) (r : Row) (t : Int), T.length = R.length →
    ∀ c, mix (T ++ [t]) (R ++ [r]) c = mix T R c + t * r c
  | [], [], r, t, _, c => by simp [mix]
  | x :: R, u :: T, r, t, h, c => by
      have h2 := mix_append R T r t (by simpa using h) c
      simp only [List.cons_append, mix, h2]; grind

theorem InSpan.push {R : List Row} {f : Row} (r : Row) (hf : InSpan R f) : InSpan (R ++ [r]) f := by
  obtain ⟨T, hT, h⟩ := hf
  exact ⟨T ++ [0], by simp [hT], fun c => by rw [mix_append R T r 0 hT, h]; simp⟩

theorem InSpan.pop {R : List Row} {f r : Row} (hf : InSpan (R ++ [r]) f) :
    ∃ t : Int, ∃ g : Row, InSpan R g ∧ ∀ j, f j = g j + t * r j := by
  obtain ⟨T, hT, h⟩ := hf
  rcases List.eq_nil_or_concat T with rfl | ⟨U, t, rfl⟩
  · simp at hT
  · have hU : U.length = R.length := by simpa using hT
    refine ⟨t, fun j => mix U R j, ⟨U, hU, fun _ => rfl⟩, fun j => ?_⟩
    rw [h, List.concat_eq_append, mix_append R U r t hU]

def low (R : List Row) (C : List Nat) (x : Row) : Row := fun j => det (R ++ [x]) (C ++ [j])
def unitAt (c : Nat) : Row := fun j => if j = c then 1 else 0
def upp (R : List Row) (C : List Nat) (c : Nat) : Row := fun j => det R C * unitAt c j - low R C (unitAt c) j

theorem low_mem (R : List Row) (C : List Nat) (x : Row) (c : Nat) (h : c ∈ C) : low R C x c = 0 := det_mem _ _ _ h

theorem low_span (R : List Row) (C : List Nat) (x : Row) : InSpan R (fun j => low R C x j - det R C * x j) := by
  obtain ⟨T, hT, h⟩ := det_last x R C
  exact ⟨T, hT, fun c => by simp only [low, h]; grind⟩

theorem upp_span (R : List Row) (C : List Nat) (c : Nat) : InSpan R (upp R C c) := by
  obtain ⟨T, hT, h⟩ := (low_span R C (unitAt c)).mul (-1)
  exact ⟨T, hT, fun j => by rw [← h]; simp only [upp]; grind⟩

theorem upp_self (R : List Row) (C : List Nat) (c : Nat) (h : c ∈ C) : upp R C c c = det R C := by
  simp only [upp, low_mem R C _ c h, unitAt, if_pos]; grind

theorem upp_other (R : List Row) (C : List Nat) (c j : Nat) (h : j ∈ C) (hn : j ≠ c) : upp R C c j = 0 := by
  simp only [upp, low_mem R C _ j h, unitAt, if_neg hn]; grind

/-- rows whose part at the columns can be undone -/
structure Good (R : List Row) (C : List Nat) : Prop where
  len : C.length = R.length
  ne : det R C ≠ 0
  none : ∀ f, InSpan R f → (∀ c ∈ C, f c = 0) → ∀ j, f j = 0

theorem Good.nil : Good [] [] where
  len := rfl
  ne := by simp [det]
  none := by
    rintro f ⟨T, hT, h⟩ _ j
    rw [h]; cases T <;> simp_all [mix]

theorem det_push (R : List Row) (C : List Nat) (r : Row) (q : Nat) : det (R ++ [r]) (C ++ [q]) = low R C r q := rfl

theorem Good.push {R : List Row} {C : List Nat} (hG : Good R C) {r : Row} {q : Nat} (hp : low R C r q ≠ 0) :
    Good (R ++ [r]) (C ++ [q]) where
  len := by simp [hG.len]
  ne := hp
  none := by
    intro f hf hz j
    obtain ⟨t, g, hg, hfg⟩ := hf.pop
    have hs := ((hg.mul (det R C)).add ((low_span R C r).mul (-t)))
    have hz2 := hG.none _ hs (fun c hc => by
      have h1 := hz c (by simp [hc])
      have h2 := low_mem R C r c hc
      rw [hfg] at h1
      rw [h2]
      have h3 : det R C * (g c + t * r c) = 0 := by rw [h1]; simp
      grind)
    have h1 : ∀ j, det R C * f j = t * low R C r j := fun j => by
      have h := hz2 j
      rw [hfg]; grind
    have h2 := h1 q
    rw [hz q (by simp)] at h2
    have h3 : t = 0 := by
      have h4 : t * low R C r q = 0 := by rw [← h2]; simp
      rcases Int.mul_eq_zero.1 h4 with h | h
      · exact h
      · exact absurd h hp
    have h4 := h1 j
    rw [h3, Int.zero_mul] at h4
    rcases Int.mul_eq_zero.1 h4 with h | h
    · exact absurd h hG.ne
    · exact h

theorem Good.eq {R : List Row} {C : List Nat} (hG : Good R C) {f g : Row} (hf : InSpan R f) (hg : InSpan R g)
    (h : ∀ c ∈ C, f c = g c) (j : Nat) : f j = g j := by
  have h2 := hG.none _ (hf.add (hg.mul (-1))) (fun c hc => by rw [h c hc]; grind) j
  omega

theorem Good.low_step {R : List Row} {C : List Nat} (hG : Good R C) {r : Row} {q : Nat} (hp : low R C r q ≠ 0) (x : Row) (j : Nat) :
    low R C r q * low R C x j - low R C x q * low R C r j = det R C * low (R ++ [r]) (C ++ [q]) x j := by
  have hG2 := hG.push hp
  have h1 : InSpan (R ++ [r]) (fun j => low R C r q * low R C x j - low R C x q * low R C r j - det R C * low (R ++ [r]) (C ++ [q]) x j) := by
    have a := ((low_span R C x).push r).mul (low R C r q)
    have b := ((low_span R C r).push r).mul (- low R C x q)
    have c := (low_span (R ++ [r]) (C ++ [q]) x).mul (- det R C)
    have e := (InSpan.mem (R := R ++ [r]) (r := r) (by simp)).mul (- low R C x q * det R C)
    obtain ⟨T, hT, h⟩ := ((a.add b).add c).add e
    refine ⟨T, hT, fun j => ?_⟩
    rw [← h, det_push]; simp only []; grind
  have h2 := hG2.none _ h1 (fun c hc => by
    rw [low_mem (R ++ [r]) (C ++ [q]) x c hc]
    rcases List.mem_append.1 hc with h | h
    · rw [low_mem R C x c h, low_mem R C r c h]; grind
    · rw [List.mem_singleton.1 h]; grind) j
  omega

theorem Good.not_mem {R : List Row} {C : List Nat} {r : Row} {q : Nat} (hp : low R C r q ≠ 0) {c : Nat} (hc : c ∈ C) : c ≠ q := by
  rintro rfl
  exact hp (low_mem R C r c hc)

theorem Good.upp_step {R : List Row} {C : List Nat} (hG : Good R C) {r : Row} {q : Nat} (hp : low R C r q ≠ 0) {c : Nat} (hc : c ∈ C) (j : Nat) :
    low R C r q * upp R C c j - upp R C c q * low R C r j = det R C * upp (R ++ [r]) (C ++ [q]) c j := by
  have hG2 := hG.push hp
  have hcq : c ≠ q := Good.not_mem hp hc
  have h1 : InSpan (R ++ [r]) (fun j => low R C r q * upp R C c j - upp R C c q * low R C r j - det R C * upp (R ++ [r]) (C ++ [q]) c j) := by
    have a := ((upp_span R C c).push r).mul (low R C r q)
    have b := ((low_span R C r).push r).mul (- upp R C c q)
    have d := (upp_span (R ++ [r]) (C ++ [q]) c).mul (- det R C)
    have e := (InSpan.mem (R := R ++ [r]) (r := r) (by simp)).mul (- upp R C c q * det R C)
    obtain ⟨T, hT, h⟩ := ((a.add b).add d).add e
    refine ⟨T, hT, fun j => ?_⟩
    rw [← h]; simp only []; grind
  have h2 := hG2.none _ h1 (fun c' hc' => by
    rcases List.mem_append.1 hc' with h | h
    · rw [low_mem R C r c' h]
      by_cases he : c' = c
      · subst he
        rw [upp_self R C c' h, upp_self (R ++ [r]) (C ++ [q]) c' hc', det_push]; grind
      · rw [upp_other R C c c' h he, upp_other (R ++ [r]) (C ++ [q]) c c' hc' he]; grind
    · rw [List.mem_singleton.1 h, upp_other (R ++ [r]) (C ++ [q]) c q (by simp) (Ne.symm hcq)]; grind) j
  omega

theorem Good.upp_new {R : List Row} {C : List Nat} (hG : Good R C) {r : Row} {q : Nat} (hp : low R C r q ≠ 0) (j : Nat) :
    upp (R ++ [r]) (C ++ [q]) q j = low R C r j := by
  have hG2 := hG.push hp
  have h1 : InSpan (R ++ [r]) (low R C r) := by
    have e := (InSpan.mem (R := R ++ [r]) (r := r) (by simp)).mul (det R C)
    obtain ⟨T, hT, h⟩ := ((low_span R C r).push r).add e
    exact ⟨T, hT, fun j => by rw [← h]; simp only []; grind⟩
  refine hG2.eq (upp_span _ _ q) h1 (fun c hc => ?_) j
  rcases List.mem_append.1 hc with h | h
  · rw [low_mem R C r c h, upp_other (R ++ [r]) (C ++ [q]) q c hc (Good.not_mem hp h)]
  · rw [List.mem_singleton.1 h, upp_self (R ++ [r]) (C ++ [q]) q (by simp), det_push]

end Lin
/-! Rows over a field: sums over lists, reduced rows, the rank of a table and of the turned table. -/
namespace Lin
set_option autoImplicit false
set_option linter.unusedSimpArgs false
section
variable {F : Type} [Lean.Grind.CommRing F]

def sm : List Nat → (Nat → F) → F
  | [], _ => 0
  | i :: L, f => f i + sm L f

theorem sm_congr {f g : Nat → F} : ∀ (L : List Nat), (∀ i ∈ L, f i = g i) → sm L f = sm L g
  | [], _ => rfl
  | i :: L, h => by
      simp only [sm, h i (by simp), sm_congr L (fun j hj => h j (by simp [hj]))]

theorem sm_zero {f : Nat → F} : ∀ (L : List Nat), (∀ i ∈ L, f i = 0) → sm L f = 0
  | [], _ => rfl
  | i :: L, h => by
      simp only [sm, h i (by simp), sm_zero L (fun j hj => h j (by simp [hj]))]; grind

theorem sm_add (f g : Nat → F) : ∀ L : List Nat, sm L (fun i => f i + g i) = sm L f + sm L g
  | [] => by simp only [sm]; grind
  | i :: L => by simp only [sm, sm_add f g L]; grind

theorem sm_mul (k : F) (f : Nat → F) : ∀ L : List Nat, sm L (fun i => k * f i) = k * sm L f
  | [] => by simp only [sm]; grind
  | i :: L => by simp only [sm, sm_mul k f L]; grind

theorem sm_swap (f : Nat → Nat → F) (M : List Nat) : ∀ L : List Nat, sm L (fun i => sm M (f i)) = sm M (fun j => sm L (fun i => f i j))
  | [] => by simp only [sm]; rw [sm_zero M (fun _ _ => rfl)]
  | i :: L => by
      simp only [sm, sm_swap f M L, ← sm_add]

theorem sm_delta (f : Nat → F) (c : Nat) : ∀ L : List Nat, L.Nodup → c ∈ L → (∀ i ∈ L, i ≠ c → f i = 0) → sm L f = f c
  | i :: L, hn, hc, h => by
      rcases List.nodup_cons.1 hn with ⟨h1, h2⟩
      rcases List.mem_cons.1 hc with rfl | hc
      · simp only [sm, sm_zero L (fun j hj => h j (by simp [hj]) (by rintro rfl; exact h1 hj))]; grind
      · have h3 := sm_delta f c L h2 hc (fun j hj => h j (by simp [hj]))
        simp only [sm, h3, h i (by simp) (by rintro rfl; exact h1 hc)]; grind

theorem sm_erase (f : Nat → F) (c : Nat) : ∀ L : List Nat, c ∈ L → sm L f = f c + sm (L.erase c) f
  | i :: L, h => by
      by_cases e : i = c
      · subst e; simp [sm, List.erase_cons_head]
      · have hc : c ∈ L := by rcases List.mem_cons.1 h with h | h; exact absurd h.symm e; exact h
        rw [List.erase_cons_tail (by simpa using e)]
        simp only [sm, sm_erase f c L hc]; grind

end
section
variable {F : Type} [Lean.Grind.Field F]

/-- more rows than columns: some multiples of them, not all 0, add up to 0 -/
theorem dep : ∀ (r : Nat) (L : List Nat) (V : Nat → Nat → F), L.Nodup → r < L.length →
    ∃ y : Nat → F, (∃ i ∈ L, y i ≠ 0) ∧ ∀ j, j < r → sm L (fun i => y i * V i j) = 0
  | 0, L, V, _, h => by
      cases L with
      | nil => simp at h
      | cons i L => exact ⟨fun _ => 1, ⟨i, by simp, Lean.Grind.Field.zero_ne_one.symm⟩, fun j hj => absurd hj (by omega)⟩
  | r + 1, L, V, hn, h => by
      by_cases hz : ∀ i ∈ L, V i r = 0
      · obtain ⟨y, hy, h2⟩ := dep r L V hn (by omega)
        refine ⟨y, hy, fun j hj => ?_⟩
        by_cases e : j = r
        · subst e; exact sm_zero L (fun i hi => by rw [hz i hi]; grind)
        · exact h2 j (by omega)
      · simp only [Classical.not_forall] at hz
        obtain ⟨i0, hi0, hne⟩ := hz
        have hlen : r < (L.erase i0).length := by rw [List.length_erase_of_mem hi0]; omega
        obtain ⟨y, ⟨i1, hi1, hy⟩, h2⟩ := dep r (L.erase i0) (fun i j => V i j - V i r * (V i0 r)⁻¹ * V i0 j) (hn.erase i0) hlen
        have hnm : ∀ i ∈ L.erase i0, i ≠ i0 := fun i hi => ((List.Nodup.mem_erase_iff hn).1 hi).1
        let t : F := sm (L.erase i0) (fun i => y i * V i r)
        have hsum : ∀ j, sm L (fun i => (if i = i0 then -(t * (V i0 r)⁻¹) else y i) * V i j) =
            -(t * (V i0 r)⁻¹) * V i0 j + sm (L.erase i0) (fun i => y i * V i j) := fun j => by
          rw [sm_erase _ i0 L hi0]
          simp only [if_pos]
          rw [sm_congr (L.erase i0) (g := fun i => y i * V i j) (fun i hi => by rw [if_neg (hnm i hi)])]
        refine ⟨fun i => if i = i0 then -(t * (V i0 r)⁻¹) else y i, ⟨i1, List.mem_of_mem_erase hi1, by show (if i1 = i0 then _ else _) ≠ _; rw [if_neg (hnm i1 hi1)]; exact hy⟩, fun j hj => ?_⟩
        rw [hsum j]
        by_cases e : j = r
        · subst e
          show -(t * (V i0 j)⁻¹) * V i0 j + t = 0
          grind
        · have h3 := h2 j (by omega)
          have h4 : sm (L.erase i0) (fun i => y i * (V i j - V i r * (V i0 r)⁻¹ * V i0 j)) =
              sm (L.erase i0) (fun i => y i * V i j) + -((V i0 r)⁻¹ * V i0 j) * t := by
            rw [← sm_mul, ← sm_add]
            exact sm_congr _ (fun i _ => by grind)
          rw [h4] at h3
          grind

/-- reduced rows, the row with the lead `c` being `ρ c` -/
structure Red (C : List Nat) (ρ : Nat → Nat → F) : Prop where
  nodup : C.Nodup
  one : ∀ c ∈ C, ρ c c = 1
  zero : ∀ c ∈ C, ∀ d ∈ C, d ≠ c → ρ c d = 0
  first : ∀ c ∈ C, ∀ j, j < c → ρ c j = 0

/-- a sum of multiples of the rows: those that it has at the leads -/
def In (C : List Nat) (ρ : Nat → Nat → F) (v : Nat → F) : Prop := ∀ j, v j = sm C (fun c => v c * ρ c j)

theorem Red.self {C : List Nat} {ρ : Nat → Nat → F} (h : Red C ρ) {c : Nat} (hc : c ∈ C) : In C ρ (ρ c) := fun j => by
  rw [sm_delta _ c C h.nodup hc (fun d hd hn => by rw [h.zero c hc d hd hn]; grind), h.one c hc]; grind

theorem In.add {C : List Nat} {ρ : Nat → Nat → F} {v w : Nat → F} (hv : In C ρ v) (hw : In C ρ w) : In C ρ (fun j => v j + w j) := fun j => by
  show v j + w j = _
  rw [hv j, hw j, ← sm_add]
  exact sm_congr _ (fun c _ => by grind)

theorem In.mul {C : List Nat} {ρ : Nat → Nat → F} {v : Nat → F} (k : F) (hv : In C ρ v) : In C ρ (fun j => k * v j) := fun j => by
  show k * v j = _
  rw [hv j, ← sm_mul]
  exact sm_congr _ (fun c _ => by grind)

theorem In.zero (C : List Nat) (ρ : Nat → Nat → F) : In C ρ (fun _ => 0) := fun j => by
  rw [sm_zero C (fun c _ => by grind)]

theorem In.sum {C : List Nat} {ρ : Nat → Nat → F} (y : Nat → F) (σ : Nat → Nat → F) : ∀ D : List Nat, (∀ d ∈ D, In C ρ (σ d)) →
    In C ρ (fun j => sm D (fun d => y d * σ d j))
  | [], _ => In.zero C ρ
  | d :: D, h => ((h d (by simp)).mul (y d)).add (In.sum y σ D (fun e he => h e (by simp [he])))

/-- the first number other than 0 of a sum of the rows stands at a lead -/
theorem Red.lead {C : List Nat} {ρ : Nat → Nat → F} (h : Red C ρ) {v : Nat → F} (hv : In C ρ v) {l : Nat} (hl : v l ≠ 0)
    (hf : ∀ j, j < l → v j = 0) : l ∈ C := by
  apply Classical.byContradiction
  intro hn
  apply hl
  rw [hv l]
  refine sm_zero C (fun c hc => ?_)
  by_cases hcl : c < l
  · rw [hf c hcl]; grind
  · rw [h.first c hc l (by rcases Nat.lt_or_ge l c with h | h; exact h; exact absurd (by omega : c = l) (fun e => hn (e ▸ hc)))]; grind

theorem one_ne : (1 : F) ≠ 0 := Lean.Grind.Field.zero_ne_one.symm

theorem Red.sub {C D : List Nat} {ρ σ : Nat → Nat → F} (h : Red C ρ) (k : Red D σ) (hi : ∀ d ∈ D, In C ρ (σ d)) : ∀ d ∈ D, d ∈ C :=
  fun d hd => h.lead (hi d hd) (by rw [k.one d hd]; exact one_ne) (k.first d hd)

/-- reduced rows with the same sums are the same -/
theorem Red.unique {C D : List Nat} {ρ σ : Nat → Nat → F} (h : Red C ρ) (k : Red D σ) (hi : ∀ d ∈ D, In C ρ (σ d)) (hj : ∀ c ∈ C, In D σ (ρ c)) :
    (∀ c, c ∈ C ↔ c ∈ D) ∧ ∀ c ∈ C, ∀ j, ρ c j = σ c j := by
  have h1 := h.sub k hi
  have h2 := k.sub h hj
  refine ⟨fun c => ⟨h2 c, h1 c⟩, fun c hc j => ?_⟩
  have hd := h2 c hc
  rw [hi c hd j, sm_delta _ c C h.nodup hc (fun d hd' hn => by rw [k.zero c hd d (h2 d hd') hn]; grind), k.one c hd]; grind

/-- so many rows with leads are no sums of multiples of fewer vectors -/
theorem Red.few {D : List Nat} {σ : Nat → Nat → F} (k : Red D σ) (B : List Nat) (u : Nat → Nat → F) (m : Nat → Nat → F)
    (hs : ∀ d ∈ D, ∀ j ∈ D, σ d j = sm B (fun b => m d b * u b j)) : D.length ≤ B.length := by
  apply Classical.byContradiction
  intro hn
  obtain ⟨y, ⟨d, hd, hy⟩, h⟩ := dep B.length D (fun d t => m d (B.getD t 0)) k.nodup (by omega)
  apply hy
  have h2 : ∀ b ∈ B, sm D (fun e => y e * m e b) = 0 := fun b hb => by
    obtain ⟨t, ht, e⟩ := List.getElem_of_mem hb
    have h3 := h t ht
    simpa [List.getD_eq_getElem?_getD, ht, e] using h3
  have h3 : sm D (fun e => y e * σ e d) = y d := by
    rw [sm_delta _ d D k.nodup hd (fun e he hne => by rw [k.zero e he d hd (Ne.symm hne)]; grind), k.one d hd]; grind
  rw [← h3, sm_congr D (g := fun e => sm B (fun b => y e * m e b * u b d)) (fun e he => by
    rw [hs e he d hd, ← sm_mul]; exact sm_congr _ (fun b _ => by grind)), sm_swap]
  refine sm_zero B (fun b hb => ?_)
  rw [sm_congr D (g := fun e => u b d * (y e * m e b)) (fun e _ => by grind), sm_mul, h2 b hb]; grind

end
end Lin

/-! What clearing without fractions does, seen in a field: 0 or a prime being the characteristic. -/
namespace Lin
set_option autoImplicit false
set_option linter.unusedSimpArgs false

theorem InSpan.zero (R : List Row) : InSpan R (fun _ => 0) := by
  obtain ⟨V, hV, h⟩ := mix_zero R
  exact ⟨V, hV, fun c => (h c).symm⟩

theorem InSpan.sm {R : List Row} (y : Nat → Int) (u : Nat → Row) : ∀ D : List Nat, (∀ d ∈ D, InSpan R (u d)) →
    InSpan R (fun j => Lin.sm D (fun d => y d * u d j))
  | [], _ => InSpan.zero R
  | d :: D, h => ((h d (by simp)).mul (y d)).add (InSpan.sm y u D (fun e he => h e (by simp [he])))

/-- each row by the rows that are cleared -/
theorem Good.expand {R : List Row} {C : List Nat} (hG : Good R C) (hn : C.Nodup) (x : Row) (j : Nat) :
    det R C * x j = low R C x j + Lin.sm C (fun c => x c * upp R C c j) := by
  have h1 := (low_span R C x).mul (-1)
  have h2 := InSpan.sm x (upp R C) C (fun c _ => upp_span R C c)
  have h3 := hG.eq h1 h2 (fun c hc => by
    rw [low_mem R C x c hc, sm_delta _ c C hn hc (fun d hd hne => by rw [upp_other R C d c hc (Ne.symm hne)]; grind), upp_self R C c hc]; grind) j
  rw [← h3]; grind

/-- rows of the part have no rest -/
theorem Good.low_row {R : List Row} {C : List Nat} (hG : Good R C) {x : Row} (hx : x ∈ R) (j : Nat) : low R C x j = 0 := by
  have h1 := (low_span R C x).add ((InSpan.mem hx).mul (det R C))
  have h2 := hG.none _ h1 (fun c hc => by rw [low_mem R C x c hc]; grind) j
  grind

section
variable {F : Type} [Lean.Grind.Field F]

def ph (F : Type) [Lean.Grind.Field F] (n : Int) : F := Lean.Grind.Ring.intCast.intCast n
theorem ph_add (a b : Int) : ph F (a + b) = ph F a + ph F b := Lean.Grind.Ring.intCast_add a b
theorem ph_mul (a b : Int) : ph F (a * b) = ph F a * ph F b := Lean.Grind.Ring.intCast_mul a b
theorem ph_neg (a : Int) : ph F (-a) = - ph F a := Lean.Grind.Ring.intCast_neg a
theorem ph_sub (a b : Int) : ph F (a - b) = ph F a - ph F b := Lean.Grind.Ring.intCast_sub a b
theorem ph_zero : ph F 0 = 0 := Lean.Grind.Ring.intCast_zero
theorem ph_one : ph F 1 = 1 := Lean.Grind.Ring.intCast_one

theorem ph_sm (f : Nat → Int) : ∀ L : List Nat, ph F (sm L f) = sm L (fun i => ph F (f i))
  | [] => ph_zero
  | i :: L => by simp only [sm, ph_add, ph_sm f L]

structure Cl (F : Type) [Lean.Grind.Field F] (R X : List Row) (C : List Nat) (col : Nat) : Prop where
  good : Good R C
  dne : ph F (det R C) ≠ 0
  asc : C.Pairwise (· < ·)
  lt : ∀ c ∈ C, c < col
  lowz : ∀ x ∈ X, ∀ j, j < col → ph F (low R C x j) = 0
  uppz : ∀ c ∈ C, ∀ j, j < c → ph F (upp R C c j) = 0

theorem Cl.init (X : List Row) : Cl F [] X [] 0 where
  good := Good.nil
  dne := by rw [show det [] [] = 1 from rfl, ph_one]; exact one_ne
  asc := List.Pairwise.nil
  lt := by simp
  lowz := by intro x _ j hj; omega
  uppz := by simp

theorem Cl.skip {R X : List Row} {C : List Nat} {col : Nat} (h : Cl F R X C col) (hz : ∀ x ∈ X, ph F (low R C x col) = 0) :
    Cl F R X C (col + 1) where
  good := h.good
  dne := h.dne
  asc := h.asc
  lt := fun c hc => by have := h.lt c hc; omega
  lowz := fun x hx j hj => by
    by_cases e : j = col
    · rw [e]; exact hz x hx
    · exact h.lowz x hx j (by omega)
  uppz := h.uppz

theorem Cl.ne {R X : List Row} {C : List Nat} {col : Nat} (_h : Cl F R X C col) {r : Row} (hr : ph F (low R C r col) ≠ 0) : low R C r col ≠ 0 := by
  intro e; rw [e, ph_zero] at hr; exact hr rfl

theorem Cl.low_eq {R X : List Row} {C : List Nat} {col : Nat} (h : Cl F R X C col) {r : Row} (hr : ph F (low R C r col) ≠ 0) (x : Row) (j : Nat) :
    ph F (low (R ++ [r]) (C ++ [col]) x j) = (ph F (low R C r col) * ph F (low R C x j) - ph F (low R C x col) * ph F (low R C r j)) * (ph F (det R C))⁻¹ := by
  have h1 := h.good.low_step (h.ne hr) x j
  have h2 := congrArg (ph F) h1
  simp only [ph_sub, ph_mul] at h2
  have := h.dne
  grind

theorem Cl.upp_eq {R X : List Row} {C : List Nat} {col : Nat} (h : Cl F R X C col) {r : Row} (hr : ph F (low R C r col) ≠ 0) {c : Nat} (hc : c ∈ C) (j : Nat) :
    ph F (upp (R ++ [r]) (C ++ [col]) c j) = (ph F (low R C r col) * ph F (upp R C c j) - ph F (upp R C c col) * ph F (low R C r j)) * (ph F (det R C))⁻¹ := by
  have h1 := h.good.upp_step (h.ne hr) hc j
  have h2 := congrArg (ph F) h1
  simp only [ph_sub, ph_mul] at h2
  have := h.dne
  grind

theorem Cl.take {R X Y : List Row} {C : List Nat} {col : Nat} (h : Cl F R X C col) {r : Row} (hrX : r ∈ X) (hr : ph F (low R C r col) ≠ 0)
    (hY : ∀ x ∈ Y, x ∈ X) : Cl F (R ++ [r]) Y (C ++ [col]) (col + 1) where
  good := h.good.push (h.ne hr)
  dne := hr
  asc := List.pairwise_append.2 ⟨h.asc, by simp, fun c hc d hd => by rw [List.mem_singleton.1 hd]; exact h.lt c hc⟩
  lt := fun c hc => by
    rcases List.mem_append.1 hc with hc | hc
    · have := h.lt c hc; omega
    · rw [List.mem_singleton.1 hc]; omega
  lowz := fun x hx j hj => by
    rw [h.low_eq hr]
    by_cases e : j = col
    · subst e; grind
    · rw [h.lowz x (hY x hx) j (by omega), h.lowz r hrX j (by omega)]; grind
  uppz := fun c hc j hj => by
    rcases List.mem_append.1 hc with hc | hc
    · rw [h.upp_eq hr hc, h.uppz c hc j hj, h.lowz r hrX j (by have := h.lt c hc; omega)]; grind
    · rw [List.mem_singleton.1 hc] at hj ⊢
      rw [h.good.upp_new (h.ne hr), h.lowz r hrX j hj]

/-- the row with lead c -/
def rho (F : Type) [Lean.Grind.Field F] (R : List Row) (C : List Nat) (c j : Nat) : F := ph F (upp R C c j) * (ph F (det R C))⁻¹

theorem Cl.nodup {R X : List Row} {C : List Nat} {col : Nat} (h : Cl F R X C col) : C.Nodup :=
  h.asc.imp (fun hab => by omega)

theorem Cl.red {R X : List Row} {C : List Nat} {col : Nat} (h : Cl F R X C col) : Red C (rho F R C) where
  nodup := h.nodup
  one := fun c hc => by
    have := h.dne
    simp only [rho, upp_self R C c hc]; grind
  zero := fun c hc d hd hn => by simp only [rho, upp_other R C c d hd hn, ph_zero]; grind
  first := fun c hc j hj => by simp only [rho, h.uppz c hc j hj]; grind

/-- all rows, where nothing is left at a column -/
theorem Cl.inAt {R X : List Row} {C : List Nat} {col : Nat} (h : Cl F R X C col) (x : Row) (j : Nat) (hz : ph F (low R C x j) = 0) :
    ph F (x j) = sm C (fun c => ph F (x c) * rho F R C c j) := by
  have h1 := congrArg (ph F) (h.good.expand h.nodup x j)
  rw [ph_add, hz, ph_mul, ph_sm] at h1
  have h2 := h.dne
  have h3 : sm C (fun c => ph F (x c) * rho F R C c j) = (ph F (det R C))⁻¹ * sm C (fun c => ph F (x c * upp R C c j)) := by
    rw [← sm_mul]
    exact sm_congr C (fun c _ => by simp only [rho, ph_mul]; grind)
  rw [h3]
  grind

end
end Lin

/-! The rank of a turned table; rows taken in one after the other; a kernel; the fields of the grounds. -/
namespace Lin
set_option autoImplicit false
set_option linter.unusedSimpArgs false
section
variable {F : Type} [Lean.Grind.Field F]

/-- what the rows of one table make has as many leads as what its columns make, at most -/
theorem turn_le {C D J : List Nat} {ρ σ : Nat → Nat → F} (a : Nat → Nat → F) (m : Nat → Nat → F) (k : Red D σ)
    (hC : ∀ i ∈ D, ∀ j ∈ J, a i j = sm C (fun c => a i c * ρ c j))
    (hD : ∀ d ∈ D, ∀ i ∈ D, σ d i = sm J (fun j => m d j * a i j)) : D.length ≤ C.length := by
  refine k.few C (fun c i => a i c) (fun d c => sm J (fun j => m d j * ρ c j)) (fun d hd i hi => ?_)
  rw [hD d hd i hi, sm_congr J (g := fun j => sm C (fun c => m d j * ρ c j * a i c)) (fun j hj => by
    rw [hC i hi j hj, ← sm_mul]; exact sm_congr _ (fun c _ => by grind)), sm_swap]
  refine sm_congr C (fun c _ => ?_)
  rw [sm_congr J (g := fun j => a i c * (m d j * ρ c j)) (fun j _ => by grind), sm_mul]; grind

/-- sums of multiples -/
inductive Gen (S : (Nat → F) → Prop) : (Nat → F) → Prop
  | mem {v : Nat → F} : S v → Gen S v
  | zero : Gen S (fun _ => 0)
  | add {v w : Nat → F} : Gen S v → Gen S w → Gen S (fun j => v j + w j)
  | mul (k : F) {v : Nat → F} : Gen S v → Gen S (fun j => k * v j)

theorem Gen.trans {S T : (Nat → F) → Prop} (h : ∀ v, S v → Gen T v) {v : Nat → F} (hv : Gen S v) : Gen T v := by
  induction hv with
  | mem hs => exact h _ hs
  | zero => exact .zero
  | add _ _ h1 h2 => exact h1.add h2
  | mul k _ h1 => exact h1.mul k

theorem Gen.sub {S : (Nat → F) → Prop} {v w : Nat → F} (k : F) (hv : Gen S v) (hw : Gen S w) : Gen S (fun j => v j - k * w j) := by
  have h := hv.add (hw.mul (-k))
  have e : (fun j => v j + -k * w j) = (fun j => v j - k * w j) := funext fun j => by grind
  rwa [e] at h

theorem Gen.in {C : List Nat} {ρ : Nat → Nat → F} {S : (Nat → F) → Prop} (h : ∀ v, S v → In C ρ v) {v : Nat → F} (hv : Gen S v) : In C ρ v := by
  induction hv with
  | mem hs => exact h _ hs
  | zero => exact In.zero C ρ
  | add _ _ h1 h2 => exact h1.add h2
  | mul k _ h1 => exact h1.mul k

theorem Gen.sum {S : (Nat → F) → Prop} (y : Nat → F) (u : Nat → Nat → F) : ∀ D : List Nat, (∀ d ∈ D, Gen S (u d)) →
    Gen S (fun j => sm D (fun d => y d * u d j))
  | [], _ => .zero
  | d :: D, h => ((h d (by simp)).mul (y d)).add (Gen.sum y u D (fun e he => h e (by simp [he])))

/-- two reduced tables of the same rows -/
theorem Red.same {C D : List Nat} {ρ σ : Nat → Nat → F} (h : Red C ρ) (k : Red D σ) {S : (Nat → F) → Prop}
    (h1 : ∀ v, S v → In C ρ v) (h2 : ∀ v, S v → In D σ v) (g1 : ∀ c ∈ C, Gen S (ρ c)) (g2 : ∀ d ∈ D, Gen S (σ d)) :
    (∀ c, c ∈ C ↔ c ∈ D) ∧ ∀ c ∈ C, ∀ j, ρ c j = σ c j :=
  h.unique k (fun d hd => (g2 d hd).in h1) (fun c hc => (g1 c hc).in h2)

/-- a row less the multiples of the rows found that leave 0 at their leads, one after the other -/
theorem Red.less {C : List Nat} {ρ : Nat → Nat → F} (h : Red C ρ) : ∀ (L : List Nat) (v : Nat → F), L.Nodup → (∀ c ∈ L, c ∈ C) →
    ∀ j, L.foldl (fun w c => fun j => w j - w c * ρ c j) v j = v j - sm L (fun c => v c * ρ c j)
  | [], v, _, _, j => by simp only [List.foldl_nil, sm]; grind
  | c :: L, v, hn, hL, j => by
      rcases List.nodup_cons.1 hn with ⟨hcL, hn2⟩
      rw [List.foldl_cons, Red.less h L _ hn2 (fun d hd => hL d (by simp [hd])) j]
      simp only [sm]
      rw [sm_congr L (g := fun d => v d * ρ d j) (fun d hd => by
        rw [h.zero c (hL c (by simp)) d (hL d (by simp [hd])) (by rintro rfl; exact hcL hd)]; grind)]
      grind

theorem Red.less_lead {C : List Nat} {ρ : Nat → Nat → F} (h : Red C ρ) (v : Nat → F) {c : Nat} (hc : c ∈ C) :
    v c - sm C (fun d => v d * ρ d c) = 0 := by
  rw [sm_delta _ c C h.nodup hc (fun d hd hn => by rw [h.zero d hd c hc (Ne.symm hn)]; grind), h.one c hc]; grind

/-- the rows with one more -/
def more (ρ : Nat → Nat → F) (v : Nat → F) (l : Nat) (c j : Nat) : F :=
  if c = l then (v l)⁻¹ * v j else ρ c j - ρ c l * ((v l)⁻¹ * v j)

theorem more_new (ρ : Nat → Nat → F) (v : Nat → F) (l j : Nat) : more ρ v l l j = (v l)⁻¹ * v j := if_pos rfl
theorem more_old {ρ : Nat → Nat → F} {v : Nat → F} {l c : Nat} (h : c ≠ l) (j : Nat) : more ρ v l c j = ρ c j - ρ c l * ((v l)⁻¹ * v j) := if_neg h

theorem Red.more {C : List Nat} {ρ : Nat → Nat → F} (h : Red C ρ) {v : Nat → F} {l : Nat} (hl : v l ≠ 0) (hf : ∀ j, j < l → v j = 0)
    (hz : ∀ c ∈ C, v c = 0) : Red (C ++ [l]) (more ρ v l) := by
  have hne : ∀ c ∈ C, c ≠ l := fun c hc e => hl (e ▸ hz c hc)
  refine ⟨?_, ?_, ?_, ?_⟩
  · refine List.nodup_append.2 ⟨h.nodup, by simp, fun c hc d hd => ?_⟩
    rw [List.mem_singleton.1 hd]; exact hne c hc
  · intro c hc
    rcases List.mem_append.1 hc with hc | hc
    · rw [more_old (hne c hc), h.one c hc, hz c hc]; grind
    · rw [List.mem_singleton.1 hc, more_new]; grind
  · intro c hc d hd hn
    rcases List.mem_append.1 hc with hc | hc
    · rw [more_old (hne c hc)]
      rcases List.mem_append.1 hd with hd | hd
      · rw [h.zero c hc d hd hn, hz d hd]; grind
      · rw [List.mem_singleton.1 hd]; grind
    · rw [List.mem_singleton.1 hc, more_new]
      rcases List.mem_append.1 hd with hd | hd
      · rw [hz d hd]; grind
      · exact absurd ((List.mem_singleton.1 hd).trans (List.mem_singleton.1 hc).symm) hn
  · intro c hc j hj
    rcases List.mem_append.1 hc with hc | hc
    · rw [more_old (hne c hc), h.first c hc j hj]
      by_cases e : l < c
      · rw [h.first c hc l e]; grind
      · rw [hf j (by omega)]; grind
    · rw [List.mem_singleton.1 hc] at hj ⊢
      rw [more_new, hf j hj]; grind

theorem sm_append (f : Nat → F) (M : List Nat) : ∀ L : List Nat, sm (L ++ M) f = sm L f + sm M f
  | [] => by simp only [List.nil_append, sm]; grind
  | i :: L => by simp only [List.cons_append, sm, sm_append f M L]; grind

theorem In.more {C : List Nat} {ρ : Nat → Nat → F} {v : Nat → F} {l : Nat} (hl : v l ≠ 0) (hz : ∀ c ∈ C, v c = 0) {w : Nat → F}
    (hw : In C ρ w) : In (C ++ [l]) (Lin.more ρ v l) w := fun j => by
  have hne : ∀ c ∈ C, c ≠ l := fun c hc e => hl (e ▸ hz c hc)
  rw [sm_append, sm_congr C (g := fun c => w c * ρ c j + -((v l)⁻¹ * v j) * (w c * ρ c l)) (fun c hc => by rw [more_old (hne c hc)]; grind), sm_add, sm_mul,
    ← hw j, ← hw l]
  simp only [sm, more_new]; grind

theorem In.more_self {C : List Nat} {ρ : Nat → Nat → F} {v : Nat → F} {l : Nat} (hl : v l ≠ 0) (hz : ∀ c ∈ C, v c = 0) :
    In (C ++ [l]) (Lin.more ρ v l) v := fun j => by
  rw [sm_append, sm_zero C (fun c hc => by rw [hz c hc]; grind)]
  simp only [sm, more_new]; grind

/-- a row taken in -/
theorem In.more_row {C : List Nat} {ρ : Nat → Nat → F} (h : Red C ρ) {v w : Nat → F} {l : Nat} (hl : v l ≠ 0) (hv : ∀ j, v j = w j - sm C (fun c => w c * ρ c j)) :
    In (C ++ [l]) (Lin.more ρ v l) w := by
  have hz : ∀ c ∈ C, v c = 0 := fun c hc => by rw [hv c]; exact h.less_lead w hc
  have h1 := (In.more_self (ρ := ρ) hl hz).add (In.more (ρ := ρ) hl hz (In.sum w ρ C (fun c hc => h.self hc)))
  have e : (fun j => v j + sm C (fun d => w d * ρ d j)) = w := funext fun j => by rw [hv j]; grind
  rwa [e] at h1

/-- nothing left of a row -/
theorem In.of_less {C : List Nat} {ρ : Nat → Nat → F} {w : Nat → F} (h : ∀ j, w j - sm C (fun c => w c * ρ c j) = 0) : In C ρ w :=
  fun j => by have := h j; grind

/-- the vector of the kernel for a column without a lead -/
def ker (ρ : Nat → Nat → F) (C : List Nat) (f j : Nat) : F := if j = f then 1 else if j ∈ C then - ρ j f else 0

theorem sm_filter (p : Nat → Bool) (f : Nat → F) : ∀ L : List Nat, (∀ i ∈ L, p i = false → f i = 0) → sm (L.filter p) f = sm L f
  | [], _ => rfl
  | i :: L, h => by
      have h2 := sm_filter p f L (fun j hj => h j (by simp [hj]))
      by_cases e : p i = true
      · rw [List.filter_cons_of_pos e]; simp only [sm, h2]
      · rw [List.filter_cons_of_neg e, h2]; simp only [sm, h i (by simp) (by simpa using e)]; grind

theorem sm_perm (f : Nat → F) {L M : List Nat} (h : L.Perm M) : sm L f = sm M f := by
  induction h with
  | nil => rfl
  | cons x _ ih => simp only [sm, ih]
  | swap x y l => simp only [sm]; grind
  | trans _ _ h1 h2 => exact h1.trans h2

/-- each row that is a sum of the reduced rows leads the vector to 0 -/
theorem ker_zero {C J : List Nat} {ρ : Nat → Nat → F} (_h : Red C ρ) {v : Nat → F} (hv : In C ρ v) {f : Nat} (hf : f ∈ J) (hfC : f ∉ C)
    (hJ : J.Nodup) (hC : ∀ c ∈ C, c ∈ J) (hCn : C.Nodup) : sm J (fun j => v j * ker ρ C f j) = 0 := by
  rw [sm_erase _ f J hf]
  have h1 : sm (J.erase f) (fun j => v j * ker ρ C f j) = sm ((J.erase f).filter (fun j => decide (j ∈ C))) (fun j => v j * ker ρ C f j) := by
    rw [sm_filter]
    intro i hi hp
    have hne : i ≠ f := ((List.Nodup.mem_erase_iff hJ).1 hi).1
    simp only [decide_eq_false_iff_not] at hp
    simp only [ker, if_neg hne, if_neg hp]; grind
  have hp : ((J.erase f).filter (fun j => decide (j ∈ C))).Perm C := by
    refine (List.perm_ext_iff_of_nodup ((hJ.erase f).filter _) hCn).2 (fun c => ?_)
    simp only [List.mem_filter, decide_eq_true_eq, List.Nodup.mem_erase_iff hJ]
    exact ⟨fun h => h.2, fun h => ⟨⟨fun e => hfC (e ▸ h), hC c h⟩, h⟩⟩
  rw [h1, sm_perm _ hp, sm_congr C (g := fun c => (-1 : F) * (v c * ρ c f)) (fun c hc => by
    simp only [ker, if_neg (show c ≠ f from fun e => hfC (e ▸ hc)), if_pos hc]; grind), sm_mul, ← hv f]
  simp only [ker, if_pos]; grind

end
end Lin

/-! the fields of the grounds -/
namespace Lin
set_option autoImplicit false
set_option linter.unusedSimpArgs false
open Classical in
noncomputable def finInv (p : Nat) [NeZero p] (a : Fin p) : Fin p := if h : ∃ b : Fin p, a * b = 1 then Classical.choose h else 0

theorem finInv_mul (p : Nat) [NeZero p] {a : Fin p} (h : ∃ b : Fin p, a * b = 1) : a * finInv p a = 1 := by
  rw [finInv, dif_pos h]; exact Classical.choose_spec h

theorem finInv_zero (p : Nat) [NeZero p] (h1 : (0 : Fin p) ≠ 1) : finInv p 0 = 0 := by
  rw [finInv, dif_neg]
  rintro ⟨b, hb⟩
  exact h1 (by rw [← hb]; grind)

theorem finInv_inv (p : Nat) [NeZero p] (h1 : (0 : Fin p) ≠ 1) (hi : ∀ a : Fin p, a ≠ 0 → ∃ b : Fin p, a * b = 1) (a : Fin p) :
    finInv p (finInv p a) = a := by
  by_cases e : a = 0
  · rw [e, finInv_zero p h1, finInv_zero p h1]
  · have h2 := finInv_mul p (hi a e)
    have h3 : finInv p a ≠ 0 := fun h => by rw [h] at h2; exact h1 (by rw [← h2]; grind)
    have h4 := finInv_mul p (hi _ h3)
    have h5 : a * (finInv p a * finInv p (finInv p a)) = a := by rw [h4]; grind
    have h6 : a * (finInv p a * finInv p (finInv p a)) = (a * finInv p a) * finInv p (finInv p a) := by grind
    rw [h6, h2] at h5
    rw [← h5]; grind

theorem finInv_one (p : Nat) [NeZero p] : finInv p 1 = 1 := by
  have h := finInv_mul p (a := 1) ⟨1, by grind⟩
  grind

noncomputable def finZpow (p : Nat) [NeZero p] (a : Fin p) : Int → Fin p
  | .ofNat n => Lean.Grind.Semiring.npow.hPow a n
  | .negSucc n => finInv p (Lean.Grind.Semiring.npow.hPow a (n + 1))

@[reducible] noncomputable def finField (p : Nat) [NeZero p] (h1 : (0 : Fin p) ≠ 1) (hi : ∀ a : Fin p, a ≠ 0 → ∃ b : Fin p, a * b = 1) :
    Lean.Grind.Field (Fin p) :=
  @Lean.Grind.Field.mk (Fin p) inferInstance ⟨finInv p⟩ ⟨fun a b => a * finInv p b⟩ ⟨finZpow p⟩
    (fun _ _ => rfl) h1 (finInv_zero p h1) (fun h => finInv_mul p (hi _ h))
    (fun a => Lean.Grind.Semiring.pow_zero a)
    (fun a n => Lean.Grind.Semiring.pow_succ a n)
    (fun a n => by
      show finZpow p a (-n) = finInv p (finZpow p a n)
      rcases n with n | n
      · cases n with
        | zero =>
          show Lean.Grind.Semiring.npow.hPow a 0 = finInv p (Lean.Grind.Semiring.npow.hPow a 0)
          rw [show (Lean.Grind.Semiring.npow.hPow a 0 : Fin p) = 1 from Lean.Grind.Semiring.pow_zero a, finInv_one]
        | succ n => rfl
      · show Lean.Grind.Semiring.npow.hPow a (n + 1) = finInv p (finInv p (Lean.Grind.Semiring.npow.hPow a (n + 1)))
        rw [finInv_inv p h1 hi])

/-- a field for each ground -/
theorem ground_field (g : Nat) (hg : g ≠ 0 → 2 ≤ g ∧ ∀ a : Nat, 0 < a → a < g → ∃ b : Nat, a * b % g = 1) :
    ∃ (F : Type) (_ : Lean.Grind.Field F), Lean.Grind.IsCharP F g := by
  by_cases e : g = 0
  · subst e; exact ⟨Rat, inferInstance, inferInstance⟩
  · obtain ⟨h2, hi⟩ := hg e
    have : NeZero g := ⟨e⟩
    have v1 : ((1 : Fin g)).val = 1 % g := rfl
    have h1 : (0 : Fin g) ≠ 1 := fun h => by
      have := congrArg Fin.val h
      rw [v1, Nat.mod_eq_of_lt (by omega)] at this
      simp at this
    refine ⟨Fin g, finField g h1 (fun a ha => ?_), (inferInstance : Lean.Grind.IsCharP (Fin g) g)⟩
    obtain ⟨b, hb⟩ := hi a.val (Nat.pos_of_ne_zero (fun h => ha (Fin.ext (by simpa using h)))) a.isLt
    refine ⟨⟨b % g, Nat.mod_lt _ (by omega)⟩, Fin.ext ?_⟩
    show a.val * (b % g) % g = 1 % g
    rw [Nat.mul_mod, Nat.mod_mod, ← Nat.mul_mod, hb, Nat.mod_eq_of_lt (by omega)]

section
variable {F : Type} [Lean.Grind.Field F]
theorem ph_eq (g : Nat) [Lean.Grind.IsCharP F g] {a b : Int} : ph F a = ph F b ↔ a % (g : Int) = b % (g : Int) :=
  Lean.Grind.IsCharP.intCast_ext_iff g
theorem ph_eq_zero (g : Nat) [Lean.Grind.IsCharP F g] {a : Int} : ph F a = 0 ↔ a % (g : Int) = 0 :=
  Lean.Grind.IsCharP.intCast_eq_zero_iff g a
theorem ph_inj [Lean.Grind.IsCharP F 0] {a b : Int} : ph F a = ph F b ↔ a = b := by
  rw [ph_eq 0]; simp
theorem ph_mod (g : Nat) [Lean.Grind.IsCharP F g] (a : Int) : ph F (a % (g : Int)) = ph F a := by
  rw [ph_eq g]; exact Int.emod_emod_of_dvd _ (Int.dvd_refl _)
/-- what a number stands for -/
def val (F : Type) [Lean.Grind.Field F] (a b : Int) : F := ph F a * (ph F b)⁻¹
theorem val_one (a : Int) : val F a 1 = ph F a := by rw [val, ph_one]; grind
theorem val_frac [Lean.Grind.IsCharP F 0] {a b c d : Int} (hb : 1 ≤ b) (hd : 1 ≤ d) : val F a b = val F c d ↔ a * d = c * b := by
  have h1 : ph F b ≠ 0 := fun h => by rw [ph_eq_zero 0] at h; omega
  have h2 : ph F d ≠ 0 := fun h => by rw [ph_eq_zero 0] at h; omega
  rw [← ph_inj (F := F), ph_mul, ph_mul, val, val]
  constructor <;> intro h <;> grind
theorem cop_eq {a b c d : Int} (hb : 1 ≤ b) (hd : 1 ≤ d) (h1 : Nat.gcd a.natAbs b.natAbs = 1) (h2 : Nat.gcd c.natAbs d.natAbs = 1)
    (e : a * d = c * b) : a = c ∧ b = d := by
  have e2 := congrArg Int.natAbs e
  rw [Int.natAbs_mul, Int.natAbs_mul] at e2
  have k1 : b.natAbs ∣ d.natAbs := (Nat.Coprime.dvd_of_dvd_mul_left (Nat.coprime_comm.1 h1) (e2 ▸ Nat.dvd_mul_left _ _))
  have k2 : d.natAbs ∣ b.natAbs := (Nat.Coprime.dvd_of_dvd_mul_left (Nat.coprime_comm.1 h2) (e2.symm ▸ Nat.dvd_mul_left _ _))
  have k3 := Nat.dvd_antisymm k1 k2
  have k4 : b = d := by omega
  refine ⟨?_, k4⟩
  subst k4
  exact Int.eq_of_mul_eq_mul_right (by omega) e
end
end Lin

/-! the state of the clearing of rows, as lists of integers -/
namespace Lin
set_option autoImplicit false
set_option linter.unusedSimpArgs false

def fn (ns : List Int) : Row := fun j => ns.getD j 0
def gI (nss : List (List Int)) (i c : Nat) : Int := (nss.getD i []).getD c 0
def mixF (us ns : List Int) (c : Nat) : List Int := List.zipWith (fun n o => us.getD c 0 * n - ns.getD c 0 * o) ns us

theorem mixF_len {us ns : List Int} (c : Nat) (h : ns.length = us.length) : (mixF us ns c).length = ns.length := by simp [mixF, h]
theorem mixF_at {us ns : List Int} {c j : Nat} (h : ns.length = us.length) (hj : j < ns.length) :
    (mixF us ns c)[j]? = some (us.getD c 0 * ns.getD j 0 - ns.getD c 0 * us.getD j 0) := by
  unfold mixF
  rw [List.getElem?_zipWith, List.getElem?_eq_getElem hj, List.getElem?_eq_getElem (show j < us.length by omega)]
  simp [List.getD_eq_getElem?_getD, hj, show j < us.length by omega]

/-- a row lowered, as the program does it -/
structure Lowd (g : Nat) (d : Int) (us ns : List Int) (c : Nat) (out : List Int) : Prop where
  zero : g = 0 → out = (mixF us ns c).map fun m => m.fdiv d
  prime : g ≠ 0 → ∃ u : Int, d * u % (g : Int) = 1 % (g : Int) ∧ out = (mixF us ns c).map fun m => m * u % (g : Int)

theorem Lowd.len {g : Nat} {d : Int} {us ns : List Int} {c : Nat} {out : List Int} (h : Lowd g d us ns c out) (hl : ns.length = us.length) : out.length = ns.length := by
  by_cases e : g = 0
  · rw [h.zero e, List.length_map, mixF_len c hl]
  · obtain ⟨u, _, h2⟩ := h.prime e
    rw [h2, List.length_map, mixF_len c hl]

section
variable {F : Type} [Lean.Grind.Field F]

/-- .. in the field: exact where the quotient is known to be whole -/
theorem Lowd.ph {g : Nat} [Lean.Grind.IsCharP F g] {d : Int} {us ns : List Int} {c : Nat} {out : List Int} (h : Lowd g d us ns c out) (hl : ns.length = us.length)
    {j : Nat} (hj : j < ns.length) {z : Int} (hd : Lin.ph F d ≠ 0)
    (hz : Lin.ph F (us.getD c 0) * Lin.ph F (ns.getD j 0) - Lin.ph F (ns.getD c 0) * Lin.ph F (us.getD j 0) = Lin.ph F d * Lin.ph F z) :
    Lin.ph F (out.getD j 0) = Lin.ph F z := by
  have hm := mixF_at (c := c) hl hj
  have hz2 : Lin.ph F (us.getD c 0 * ns.getD j 0 - ns.getD c 0 * us.getD j 0) = Lin.ph F (d * z) := by
    rw [ph_sub, ph_mul, ph_mul, ph_mul]; exact hz
  by_cases e : g = 0
  · subst e
    rw [h.zero rfl, List.getD_eq_getElem?_getD, List.getElem?_map, hm]
    rw [ph_inj] at hz2
    have hd0 : d ≠ 0 := fun h => hd (by rw [h, ph_zero])
    show Lin.ph F ((us.getD c 0 * ns.getD j 0 - ns.getD c 0 * us.getD j 0).fdiv d) = Lin.ph F z
    rw [hz2, Int.mul_fdiv_cancel_left _ hd0]
  · obtain ⟨u, hu, h2⟩ := h.prime e
    rw [h2, List.getD_eq_getElem?_getD, List.getElem?_map, hm]
    show Lin.ph F ((us.getD c 0 * ns.getD j 0 - ns.getD c 0 * us.getD j 0) * u % (g : Int)) = Lin.ph F z
    have hu2 : Lin.ph F (d * u) = Lin.ph F 1 := (ph_eq g).2 hu
    rw [ph_mul, ph_one] at hu2
    rw [ph_mod, ph_mul, hz2, ph_mul]
    grind

structure CSt (F : Type) [Lean.Grind.Field F] (g : Nat) (A : List (List Int)) (W col : Nat) (M : List (List Int)) (C : List Nat) (lead : Int) (R X : List Row) : Prop where
  cl : Cl F R X C col
  len : M.length = C.length + X.length
  wid : ∀ r ∈ M, r.length = W
  upper : ∀ i, i < C.length → ∀ j, j < W → ph F (gI M i j) = ph F (upp R C (C.getD i 0) j)
  lower : ∀ i, i < X.length → ∀ j, j < W → ph F (gI M (C.length + i) j) = ph F (low R C (X.getD i (fun _ => 0)) j)
  ld : ph F lead = ph F (det R C)
  rng : g ≠ 0 → (∀ r ∈ M, ∀ n ∈ r, 0 ≤ n ∧ n < g) ∧ 0 ≤ lead ∧ lead < g
  perm : (R ++ X).Perm (A.map fn)

theorem CSt.ldne {g : Nat} {A : List (List Int)} {W col : Nat} {M : List (List Int)} {C : List Nat} {lead : Int} {R X : List Row} (h : CSt F g A W col M C lead R X) : ph F lead ≠ 0 := by
  rw [h.ld]; exact h.cl.dne

theorem low_nil (x : Row) (j : Nat) : low [] [] x j = x j := by simp [low, det, ex]

theorem CSt.init {g : Nat} {A : List (List Int)} {W : Nat} (hw : ∀ r ∈ A, r.length = W) (hr : g ≠ 0 → (∀ r ∈ A, ∀ n ∈ r, 0 ≤ n ∧ n < g) ∧ 1 < g) :
    CSt F g A W 0 A [] 1 [] (A.map fn) where
  cl := Cl.init _
  len := by simp
  wid := hw
  upper := by intro i hi; simp at hi
  lower := by
    intro i hi j hj
    rw [low_nil]
    have hi2 : i < A.length := by simpa using hi
    simp [gI, fn, List.getD_eq_getElem?_getD, hi2]
  ld := rfl
  rng := fun h => ⟨(hr h).1, by omega, by have := (hr h).2; omega⟩
  perm := List.Perm.refl _

theorem CSt.skip {g : Nat} {A : List (List Int)} {W col : Nat} {M : List (List Int)} {C : List Nat} {lead : Int} {R X : List Row} (h : CSt F g A W col M C lead R X)
    (hc : col < W) (hz : ∀ i, C.length ≤ i → i < M.length → gI M i col = 0) : CSt F g A W (col + 1) M C lead R X where
  cl := h.cl.skip (fun x hx => by
    obtain ⟨i, hi, rfl⟩ := List.getElem_of_mem hx
    have h1 := h.lower i hi col hc
    rw [hz _ (by omega) (by have := h.len; omega), ph_zero] at h1
    have h2 : X.getD i (fun _ => 0) = X[i] := by simp [List.getD_eq_getElem?_getD, hi]
    rw [h2] at h1
    exact h1.symm)
  len := h.len
  wid := h.wid
  upper := h.upper
  lower := h.lower
  ld := h.ld
  rng := h.rng
  perm := h.perm

/-- two rows exchanged, as the program does it -/
def swapL {α : Type} (l : List α) (i j : Nat) (a b : α) : List α := (l.set i b).set j a

theorem swap_perm {α : Type} {l : List α} {i j : Nat} {a b : α} (hi : l[i]? = some a) (hj : l[j]? = some b) : (swapL l i j a b).Perm l := by
  unfold swapL
  obtain ⟨hi', ea⟩ := List.getElem?_eq_some_iff.mp hi
  obtain ⟨hj', eb⟩ := List.getElem?_eq_some_iff.mp hj
  subst ea; subst eb
  exact List.set_set_perm hi' hj'

theorem swap_at {α : Type} {l : List α} {i j k : Nat} {a b : α} (hi : l[i]? = some a) (hj : l[j]? = some b) :
    (swapL l i j a b)[k]? = if k = j then some a else if k = i then some b else l[k]? := by
  unfold swapL
  obtain ⟨hi', ea⟩ := List.getElem?_eq_some_iff.mp hi
  obtain ⟨hj', eb⟩ := List.getElem?_eq_some_iff.mp hj
  rw [List.getElem?_set, List.getElem?_set]
  by_cases e1 : k = j
  · subst e1; simp [hj']
  · rw [if_neg (fun h => e1 h.symm), if_neg e1]
    by_cases e2 : k = i
    · subst e2; simp [hi']
    · rw [if_neg (fun h => e2 h.symm), if_neg e2]
end
end Lin

namespace Lin
set_option autoImplicit false
set_option linter.unusedSimpArgs false
section
variable {F : Type} [Lean.Grind.Field F]

theorem Cl.mono {R X Y : List Row} {C : List Nat} {col : Nat} (h : Cl F R X C col) (hY : ∀ x ∈ Y, x ∈ X) : Cl F R Y C col :=
  ⟨h.good, h.dne, h.asc, h.lt, fun x hx => h.lowz x (hY x hx), h.uppz⟩

theorem getD_some {α : Type} {l : List α} {i : Nat} {a d : α} (h : l[i]? = some a) : l.getD i d = a := by
  rw [List.getD_eq_getElem?_getD, h]; rfl

theorem gI_some {M : List (List Int)} {i : Nat} {ns : List Int} (h : M[i]? = some ns) (j : Nat) : gI M i j = ns.getD j 0 := by
  unfold gI; rw [getD_some h]

theorem gI_congr {M N : List (List Int)} {i k : Nat} (h : M[i]? = N[k]?) (j : Nat) : gI M i j = gI N k j := by
  unfold gI
  have e : M.getD i [] = N.getD k [] := by rw [List.getD_eq_getElem?_getD, h, ← List.getD_eq_getElem?_getD]
  rw [e]

/-- Δ changes its sign when two rows change places -/
def Alt (Δ : List Row → F) : Prop := ∀ (L : List Row) (i j : Nat) (u v : Row), i ≠ j → L[i]? = some u → L[j]? = some v → Δ (swapL L i j u v) = - Δ L
/-- Q is P with rows exchanged, s the sign of it -/
def SgP (F : Type) [Lean.Grind.Field F] (s : Int) (P Q : List Row) : Prop := ∀ Δ : List Row → F, Alt Δ → Δ Q = ph F s * Δ P
theorem SgP.refl (P : List Row) : SgP F 1 P P := fun Δ _ => by rw [ph_one]; grind
theorem SgP.swap {s : Int} {P Q : List Row} (h : SgP F s P Q) {i j : Nat} {u v : Row} (n : i ≠ j) (hi : Q[i]? = some u) (hj : Q[j]? = some v) : SgP F (-s) P (swapL Q i j u v) := fun Δ a => by
  rw [a Q i j u v n hi hj, h Δ a, ph_neg]; grind
theorem swap_app (R X : List Row) (a b : Nat) (u v : Row) : R ++ swapL X a b u v = swapL (R ++ X) (R.length + a) (R.length + b) u v := by
  unfold swapL
  rw [List.set_append_right _ _ (by omega), List.set_append_right _ _ (by omega)]
  simp

theorem CSt.swap {g : Nat} {A : List (List Int)} {W col : Nat} {M : List (List Int)} {C : List Nat} {lead : Int} {R X : List Row} (h : CSt F g A W col M C lead R X)
    {i : Nat} (hi : C.length ≤ i) {a b : List Int} (ha : M[C.length]? = some a) (hb : M[i]? = some b) : ∃ X', CSt F g A W col (swapL M C.length i a b) C lead R X' ∧ (i ≠ C.length → ∀ s P, SgP F s P (R ++ X) → SgP F (-s) P (R ++ X')) := by
  have hiM := (List.getElem?_eq_some_iff.mp hb).1
  have hl := h.len
  have h0 : 0 < X.length := by omega
  have h1 : i - C.length < X.length := by omega
  have x0 := List.getElem?_eq_getElem h0
  have x1 := List.getElem?_eq_getElem h1
  generalize X[0] = u at x0
  generalize X[i - C.length] = v at x1
  have pM := swap_perm ha hb
  have pX := swap_perm x0 x1
  refine ⟨swapL X 0 (i - C.length) u v, ?_, fun ne s P hs => by
    rw [swap_app]
    exact hs.swap (by omega) (by rw [List.getElem?_append_right (by omega)]; simpa using x0) (by rw [List.getElem?_append_right (by omega)]; simpa using x1)⟩
  refine ⟨h.cl.mono (fun x hx => pX.mem_iff.1 hx), ?_, fun r hr => h.wid r (pM.mem_iff.1 hr), ?_, ?_, h.ld, ?_, ?_⟩
  · rw [pM.length_eq, pX.length_eq]; exact hl
  · intro k hk j hj
    have e : (swapL M C.length i a b)[k]? = M[k]? := by rw [swap_at ha hb, if_neg (by omega), if_neg (by omega)]
    have e2 : gI (swapL M C.length i a b) k j = gI M k j := gI_congr e j
    rw [e2]; exact h.upper k hk j hj
  · intro k hk j hj
    rw [pX.length_eq] at hk
    by_cases e1 : k = i - C.length
    · have e : (swapL M C.length i a b)[C.length + k]? = some a := by rw [swap_at ha hb, if_pos (by omega)]
      have e2 : (swapL X 0 (i - C.length) u v)[k]? = some u := by rw [swap_at x0 x1, if_pos e1]
      rw [gI_some e, getD_some e2]
      have := h.lower 0 h0 j hj
      rw [gI_some (show M[C.length + 0]? = some a from ha), getD_some x0] at this
      exact this
    · by_cases e0 : k = 0
      · have e : (swapL M C.length i a b)[C.length + k]? = some b := by rw [swap_at ha hb, if_neg (by omega), if_pos (by omega)]
        have e2 : (swapL X 0 (i - C.length) u v)[k]? = some v := by rw [swap_at x0 x1, if_neg e1, if_pos e0]
        rw [gI_some e, getD_some e2]
        have := h.lower (i - C.length) h1 j hj
        rw [gI_some (show M[C.length + (i - C.length)]? = some b by rw [show C.length + (i - C.length) = i by omega]; exact hb), getD_some x1] at this
        exact this
      · have e : (swapL M C.length i a b)[C.length + k]? = M[C.length + k]? := by rw [swap_at ha hb, if_neg (by omega), if_neg (by omega)]
        have e2 : (swapL X 0 (i - C.length) u v)[k]? = X[k]? := by rw [swap_at x0 x1, if_neg e1, if_neg e0]
        have e3 : gI (swapL M C.length i a b) (C.length + k) j = gI M (C.length + k) j := gI_congr e j
        have e4 : (swapL X 0 (i - C.length) u v).getD k (fun _ => 0) = X.getD k (fun _ => 0) := by
          rw [List.getD_eq_getElem?_getD, e2, ← List.getD_eq_getElem?_getD]
        rw [e3, e4]; exact h.lower k hk j hj
  · intro hg
    exact ⟨fun r hr => (h.rng hg).1 r (pM.mem_iff.1 hr), (h.rng hg).2⟩
  · exact (List.Perm.append_left R pX).trans h.perm

theorem CSt.take {g : Nat} [Lean.Grind.IsCharP F g] {A : List (List Int)} {W col : Nat} {M M2 : List (List Int)} {C : List Nat} {lead : Int} {R X : List Row} (h : CSt F g A W col M C lead R X)
    (hc : col < W) {a : List Int} (ha : M[C.length]? = some a) (hne : a.getD col 0 ≠ 0) (hl2 : M2.length = M.length) (ht : M2[C.length]? = some a)
    (hlow : ∀ i ns, i ≠ C.length → M[i]? = some ns → ∃ out, M2[i]? = some out ∧ Lowd g lead a ns col out) :
    ∃ R' X', CSt F g A W (col + 1) M2 (C ++ [col]) (a.getD col 0) R' X' ∧ R' ++ X' = R ++ X := by
  have hl := h.len
  have hCM := (List.getElem?_eq_some_iff.mp ha).1
  rcases X with _ | ⟨r, X⟩
  · simp at hl; omega
  have la : a.length = W := h.wid a (List.mem_of_getElem? ha)
  have pa : ∀ j, j < W → ph F (a.getD j 0) = ph F (low R C r j) := fun j hj => by
    have := h.lower 0 (by simp) j hj
    rw [gI_some (show M[C.length + 0]? = some a from ha)] at this
    simpa using this
  have hne2 : ph F (a.getD col 0) ≠ 0 := by
    intro e
    rw [ph_eq_zero g] at e
    by_cases hg : g = 0
    · subst hg; simp at e; exact hne (by simpa using e)
    · have hm : a.getD col 0 ∈ a := by rw [List.getD_eq_getElem?_getD, List.getElem?_eq_getElem (by omega)]; exact List.getElem_mem _
      have := (h.rng hg).1 a (List.mem_of_getElem? ha) _ hm
      rw [Int.emod_eq_of_lt this.1 this.2] at e
      exact hne e
  have hr : ph F (low R C r col) ≠ 0 := by rw [← pa col hc]; exact hne2
  have hcl := h.cl.take (Y := X) (r := r) (by simp) hr (fun x hx => by simp [hx])
  have ldne := h.ldne
  -- a lowered row
  have key : ∀ i ns, i ≠ C.length → M[i]? = some ns → ∀ j, j < W → ∀ z z0 : Int, ph F (ns.getD j 0) = ph F z0 → ∀ zc : Int, ph F (ns.getD col 0) = ph F zc →
      low R C r col * z0 - zc * low R C r j = det R C * z → ph F (gI M2 i j) = ph F z := by
    intro i ns hi hns j hj z z0 e0 zc ec e
    obtain ⟨out, ho, hL⟩ := hlow i ns hi hns
    have ln : ns.length = W := h.wid ns (List.mem_of_getElem? hns)
    rw [gI_some ho]
    refine hL.ph (by omega) (by omega) ldne ?_
    have e2 := congrArg (ph F) e
    simp only [ph_sub, ph_mul] at e2
    rw [pa col hc, pa j hj, e0, ec, h.ld]
    exact e2
  refine ⟨R ++ [r], X, ?_, by simp⟩
  refine ⟨hcl, ?_, ?_, ?_, ?_, pa col hc, ?_, ?_⟩
  · simp at hl ⊢; omega
  · intro r2 hr2
    obtain ⟨i, hi⟩ := List.mem_iff_getElem?.mp hr2
    by_cases e : i = C.length
    · subst e; rw [ht] at hi; cases hi; exact la
    · have hiM : i < M.length := by rw [← hl2]; exact (List.getElem?_eq_some_iff.mp hi).1
      obtain ⟨out, ho, hL⟩ := hlow i _ e (List.getElem?_eq_getElem hiM)
      rw [hi] at ho; cases ho
      have ln := h.wid _ (List.getElem_mem hiM)
      rw [hL.len (by omega)]; exact ln
  · intro i hi j hj
    rw [List.length_append, List.length_singleton] at hi
    by_cases e : i = C.length
    · subst e
      have e2 : (C ++ [col]).getD C.length 0 = col := by simp [List.getD_eq_getElem?_getD]
      rw [gI_some ht, pa j hj, e2, h.cl.good.upp_new (h.cl.ne hr)]
    · have hi2 : i < C.length := by omega
      have e2 : (C ++ [col]).getD i 0 = C.getD i 0 := by
        rw [List.getD_eq_getElem?_getD, List.getElem?_append_left hi2, ← List.getD_eq_getElem?_getD]
      rw [e2]
      have hm : C.getD i 0 ∈ C := by rw [List.getD_eq_getElem?_getD, List.getElem?_eq_getElem hi2]; exact List.getElem_mem _
      have hiM : i < M.length := by omega
      have g1 := List.getElem?_eq_getElem hiM
      have u1 := h.upper i hi2 j hj
      have u2 := h.upper i hi2 col hc
      rw [gI_some g1] at u1 u2
      exact key i _ e g1 j hj _ _ u1 _ u2 (h.cl.good.upp_step (h.cl.ne hr) hm j)
  · intro i hi j hj
    have hiM : C.length + (i + 1) < M.length := by rw [hl]; simp; omega
    have g1 := List.getElem?_eq_getElem hiM
    have u1 := h.lower (i + 1) (by simp; omega) j hj
    have u2 := h.lower (i + 1) (by simp; omega) col hc
    rw [gI_some g1] at u1 u2
    simp only [List.getD_cons_succ] at u1 u2
    have e3 : (C ++ [col]).length + i = C.length + (i + 1) := by simp; omega
    rw [e3]
    exact key _ _ (by omega) g1 j hj _ _ u1 _ u2 (h.cl.good.low_step (h.cl.ne hr) _ j)
  · intro hg
    obtain ⟨r1, r2⟩ := h.rng hg
    have ha2 := r1 a (List.mem_of_getElem? ha)
    refine ⟨fun r2' hr2' n hn => ?_, ha2 _ (by rw [List.getD_eq_getElem?_getD, List.getElem?_eq_getElem (by omega)]; exact List.getElem_mem _)⟩
    obtain ⟨i, hi⟩ := List.mem_iff_getElem?.mp hr2'
    by_cases e : i = C.length
    · subst e; rw [ht] at hi; cases hi; exact ha2 n hn
    · have hiM : i < M.length := by rw [← hl2]; exact (List.getElem?_eq_some_iff.mp hi).1
      obtain ⟨out, ho, hL⟩ := hlow i _ e (List.getElem?_eq_getElem hiM)
      rw [hi] at ho; cases ho
      obtain ⟨u, _, eo⟩ := hL.prime hg
      rw [eo] at hn
      obtain ⟨m, _, rfl⟩ := List.mem_map.mp hn
      exact ⟨Int.emod_nonneg _ (by omega), Int.emod_lt_of_pos _ (by omega)⟩
  · have := h.perm
    simpa using this

end
end Lin

/-! how far the numbers grow -/
namespace Lin
set_option autoImplicit false
set_option linter.unusedSimpArgs false

theorem ex_le (f : List Nat → Int) (r : Row) (b m N : Nat) (hr : ∀ c, (r c).natAbs ≤ b) (hf : ∀ D : List Nat, D.length ≤ N → (f D).natAbs ≤ m) :
    ∀ (C : List Nat) (s : Int) (P : List Nat), (s = 1 ∨ s = -1) → P.length + C.length ≤ N + 1 → (ex f r s P C).natAbs ≤ C.length * (b * m)
  | [], _, _, _, _ => by simp [ex]
  | c :: C, s, P, hs, hl => by
      have h1 := ex_le f r b m N hr hf C (-s) (P ++ [c]) (by omega) (by simp at hl ⊢; omega)
      have h2 : (s * r c * f (P ++ C)).natAbs ≤ b * m := by
        rw [Int.natAbs_mul, Int.natAbs_mul, show s.natAbs = 1 by omega, Nat.one_mul]
        exact Nat.mul_le_mul (hr c) (hf _ (by simp at hl ⊢; omega))
      simp only [ex, List.length_cons]
      have h3 := Int.natAbs_add_le (s * r c * f (P ++ C)) (ex f r (-s) (P ++ [c]) C)
      rw [Nat.succ_mul]
      omega

theorem det_le (b : Nat) : ∀ (R : List Row) (C : List Nat) (n : Nat), (∀ r ∈ R, ∀ c, (r c).natAbs ≤ b) → C.length ≤ n → 1 ≤ n * b → (det R C).natAbs ≤ (n * b) ^ R.length
  | [], [], _, _, _, _ => by simp [det]
  | [], _ :: _, _, _, _, _ => by simp [det]
  | r :: R, C, n, h, hl, hb => by
      have h1 := ex_le (det R) r b ((n * b) ^ R.length) n (h r (by simp)) (fun D hD => det_le b R D n (fun r hr => h r (by simp [hr])) hD hb) C 1 [] (by omega) (by simp; omega)
      simp only [det, List.length_cons]
      refine Nat.le_trans h1 ?_
      rw [Nat.pow_succ, Nat.mul_comm _ (n * b), Nat.mul_assoc]
      exact Nat.mul_le_mul hl (Nat.le_refl _)

theorem low_le {b : Nat} {R : List Row} {C : List Nat} {x : Row} (hR : ∀ r ∈ R, ∀ c, (r c).natAbs ≤ b) (hx : ∀ c, (x c).natAbs ≤ b) (hb : 1 ≤ b) (hl : C.length = R.length) (hk : R.length ≤ 12) (j : Nat) :
    (low R C x j).natAbs ≤ (13 * b) ^ 13 := by
  have h := det_le b (R ++ [x]) (C ++ [j]) 13 (fun r hr => by
    rcases List.mem_append.1 hr with hr | hr
    · exact hR r hr
    · rw [List.mem_singleton.1 hr]; exact hx) (by simp; omega) (by omega)
  refine Nat.le_trans h (Nat.pow_le_pow_right (by omega) (by simp; omega))

theorem det_le13 {b : Nat} {R : List Row} {C : List Nat} (hR : ∀ r ∈ R, ∀ c, (r c).natAbs ≤ b) (hb : 1 ≤ b) (hl : C.length = R.length) (hk : R.length ≤ 12) :
    (det R C).natAbs ≤ (13 * b) ^ 13 :=
  Nat.le_trans (det_le b R C 13 hR (by omega) (by omega)) (Nat.pow_le_pow_right (by omega) (by omega))

theorem upp_le {b : Nat} {R : List Row} {C : List Nat} (hR : ∀ r ∈ R, ∀ c, (r c).natAbs ≤ b) (hb : 1 ≤ b) (hl : C.length = R.length) (hk : R.length ≤ 12) (c j : Nat) :
    (upp R C c j).natAbs ≤ 2 * (13 * b) ^ 13 := by
  have hu : ∀ j, (unitAt c j).natAbs ≤ 1 := fun j => by unfold unitAt; split <;> simp
  have h1 := low_le hR (fun j => Nat.le_trans (hu j) hb) hb hl hk j
  have h2 := det_le13 hR hb hl hk
  have h3 : (det R C * unitAt c j).natAbs ≤ (13 * b) ^ 13 := by
    rw [Int.natAbs_mul]
    have := Nat.mul_le_mul h2 (hu j)
    omega
  have h4 := Int.natAbs_sub_le (det R C * unitAt c j) (low R C (unitAt c) j)
  unfold upp
  omega

theorem pow_grow (B : Nat) : 2 * (13 * 2 ^ B) ^ 13 < 2 ^ (13 * (B + 4) + 1) := by
  have h1 : 13 * 2 ^ B < 2 ^ (B + 4) := by rw [Nat.pow_add]; have := Nat.two_pow_pos B; omega
  have h2 : (13 * 2 ^ B) ^ 13 < (2 ^ (B + 4)) ^ 13 := Nat.pow_lt_pow_left h1 (by decide)
  rw [← Nat.pow_mul, Nat.mul_comm (B + 4) 13] at h2
  rw [Nat.pow_succ 2 (13 * (B + 4))]
  generalize (13 * 2 ^ B) ^ 13 = x at *
  generalize 2 ^ (13 * (B + 4)) = y at *
  omega

section
variable {F : Type} [Lean.Grind.Field F]
theorem CSt.small [Lean.Grind.IsCharP F 0] {A : List (List Int)} {W col : Nat} {M : List (List Int)} {C : List Nat} {lead : Int} {R X : List Row} (h : CSt F 0 A W col M C lead R X)
    {B : Nat} (hA : ∀ r ∈ A, ∀ n ∈ r, n.natAbs < 2 ^ B) (hl : A.length ≤ 12) :
    (∀ r ∈ M, ∀ n ∈ r, n.natAbs < 2 ^ (13 * (B + 4) + 1)) ∧ lead.natAbs < 2 ^ (13 * (B + 4) + 1) := by
  have hpos : 1 ≤ 2 ^ B := Nat.two_pow_pos B
  have hA2 : ∀ r ∈ R ++ X, ∀ c, (r c).natAbs ≤ 2 ^ B := fun r hr c => by
    obtain ⟨ns, hns, rfl⟩ := List.mem_map.1 (h.perm.mem_iff.1 hr)
    unfold fn
    rw [List.getD_eq_getElem?_getD]
    rcases Nat.lt_or_ge c ns.length with hc | hc
    · rw [List.getElem?_eq_getElem hc]
      exact Nat.le_of_lt (hA ns hns _ (List.getElem_mem hc))
    · rw [List.getElem?_eq_none hc]; simp
  have hR : ∀ r ∈ R, ∀ c, (r c).natAbs ≤ 2 ^ B := fun r hr => hA2 r (by simp [hr])
  have hk : R.length ≤ 12 := by
    have := h.perm.length_eq
    simp at this; omega
  have hcl := h.cl.good.len
  have hg := pow_grow B
  constructor
  · intro r hr n hn
    obtain ⟨i, hi⟩ := List.mem_iff_getElem?.mp hr
    obtain ⟨j, hj⟩ := List.mem_iff_getElem?.mp hn
    have hW := h.wid r hr
    have hjW : j < W := by rw [← hW]; exact (List.getElem?_eq_some_iff.mp hj).1
    have e : gI M i j = n := by rw [gI_some hi, getD_some hj]
    have hiM := (List.getElem?_eq_some_iff.mp hi).1
    rcases Nat.lt_or_ge i C.length with hc | hc
    · have h1 := h.upper i hc j hjW
      rw [e, ph_inj] at h1
      have := upp_le hR hpos hcl hk (C.getD i 0) j
      rw [h1]; omega
    · have hx : i - C.length < X.length := by have := h.len; omega
      have h1 := h.lower (i - C.length) hx j hjW
      rw [show C.length + (i - C.length) = i by omega, e, ph_inj] at h1
      have hm : X.getD (i - C.length) (fun _ => 0) ∈ X := by rw [List.getD_eq_getElem?_getD, List.getElem?_eq_getElem hx]; exact List.getElem_mem _
      have := low_le hR (hA2 _ (List.mem_append.2 (Or.inr hm))) hpos hcl hk j
      rw [h1]; omega
  · have h1 := h.ld
    rw [ph_inj] at h1
    have := det_le13 hR hpos hcl hk
    rw [h1]; omega
end
end Lin
/-! sizes of numbers, seen in the field; rows taken in one after the other -/
namespace Lin
set_option autoImplicit false
set_option linter.unusedSimpArgs false
section
variable {F : Type} [Lean.Grind.Field F]

/-- one bottom for all of them, and tops, of at most B bits -/
def Com (F : Type) [Lean.Grind.Field F] (g B : Nat) {ι : Type} (x : ι → F) : Prop := g = 0 → ∃ D : Int, ph F D ≠ 0 ∧ D.natAbs < 2 ^ B ∧ ∀ i, ∃ n : Int, x i * ph F D = ph F n ∧ n.natAbs < 2 ^ B

theorem Com.mono {g B C : Nat} {ι : Type} {x : ι → F} (h : Com F g B x) (hB : B ≤ C) : Com F g C x := fun g0 => by
  obtain ⟨D, h1, h2, h3⟩ := h g0
  have hp := Nat.pow_le_pow_right (n := 2) (by decide) hB
  exact ⟨D, h1, by omega, fun i => by obtain ⟨n, a, b⟩ := h3 i; exact ⟨n, a, by omega⟩⟩
theorem Com.re {g B : Nat} {ι κ : Type} {x : ι → F} (h : Com F g B x) (f : κ → ι) : Com F g B (fun k => x (f k)) := fun g0 => by
  obtain ⟨D, h1, h2, h3⟩ := h g0
  exact ⟨D, h1, h2, fun k => h3 (f k)⟩
theorem Com.congr {g B : Nat} {ι : Type} {x y : ι → F} (h : Com F g B x) (e : ∀ i, x i = y i) : Com F g B y := by
  rw [show y = x from funext fun i => (e i).symm]; exact h
theorem Com.int {g B : Nat} {ι : Type} (f : ι → Int) (hB : 1 ≤ B) (h : ∀ i, (f i).natAbs < 2 ^ B) : Com F g B (fun i => ph F (f i)) := fun _ =>
  ⟨1, by rw [ph_one]; exact one_ne, by
    have := Nat.pow_le_pow_right (n := 2) (by decide) hB
    simp at this ⊢; omega, fun i => ⟨f i, by rw [ph_one]; grind, h i⟩⟩
theorem Com.over {g B : Nat} {ι : Type} (f : ι → Int) (d : Int) (hd : ph F d ≠ 0) (hB : d.natAbs < 2 ^ B) (h : ∀ i, (f i).natAbs < 2 ^ B) : Com F g B (fun i => ph F (f i) * (ph F d)⁻¹) := fun _ =>
  ⟨d, hd, hB, fun i => ⟨f i, by grind, h i⟩⟩
theorem Com.neg {g B : Nat} {ι : Type} {x : ι → F} (h : Com F g B x) : Com F g B (fun i => - x i) := fun g0 => by
  obtain ⟨D, h1, h2, h3⟩ := h g0
  exact ⟨D, h1, h2, fun i => by obtain ⟨n, a, b⟩ := h3 i; exact ⟨-n, by rw [ph_neg, ← a]; grind, by rw [Int.natAbs_neg]; exact b⟩⟩
theorem nat_mul_lt {a b x y : Nat} (hx : x < 2 ^ a) (hy : y < 2 ^ b) : x * y < 2 ^ (a + b) := by
  rw [Nat.pow_add]
  exact Nat.mul_lt_mul'' hx hy
theorem Com.mul {g B C : Nat} {ι : Type} {x y : ι → F} (hx : Com F g B x) (hy : Com F g C y) : Com F g (B + C) (fun i => x i * y i) := fun g0 => by
  obtain ⟨D, h1, h2, h3⟩ := hx g0
  obtain ⟨E, k1, k2, k3⟩ := hy g0
  refine ⟨D * E, by rw [ph_mul]; grind, by rw [Int.natAbs_mul]; exact nat_mul_lt h2 k2, fun i => ?_⟩
  obtain ⟨n, a, b⟩ := h3 i
  obtain ⟨m, c, d⟩ := k3 i
  exact ⟨n * m, by rw [ph_mul, ph_mul, ← a, ← c]; grind, by rw [Int.natAbs_mul]; exact nat_mul_lt b d⟩
theorem Com.add {g B C : Nat} {ι : Type} {x y : ι → F} (hx : Com F g B x) (hy : Com F g C y) : Com F g (B + C + 1) (fun i => x i + y i) := fun g0 => by
  obtain ⟨D, h1, h2, h3⟩ := hx g0
  obtain ⟨E, k1, k2, k3⟩ := hy g0
  have hp : 2 ^ (B + C) < 2 ^ (B + C + 1) := Nat.pow_lt_pow_right (by decide) (by omega)
  refine ⟨D * E, by rw [ph_mul]; grind, by rw [Int.natAbs_mul]; exact Nat.lt_trans (nat_mul_lt h2 k2) hp, fun i => ?_⟩
  obtain ⟨n, a, b⟩ := h3 i
  obtain ⟨m, c, d⟩ := k3 i
  refine ⟨n * E + m * D, by rw [ph_add, ph_mul, ph_mul, ph_mul, ← a, ← c]; grind, ?_⟩
  have e1 := nat_mul_lt b k2
  have e2 := nat_mul_lt d h2
  rw [← Int.natAbs_mul] at e1 e2
  rw [Nat.add_comm C B] at e2
  have e3 := Int.natAbs_add_le (n * E) (m * D)
  rw [Nat.pow_succ]
  omega
theorem Com.inv {g B : Nat} {x : F} (hx : x ≠ 0) (h : Com F g B (fun _ : Unit => x)) : Com F g B (fun _ : Unit => x⁻¹) := fun g0 => by
  obtain ⟨D, h1, h2, h3⟩ := h g0
  obtain ⟨n, a, b⟩ := h3 ()
  refine ⟨n, ?_, b, fun _ => ⟨D, ?_, h2⟩⟩
  · rw [← a]; grind
  · rw [← a]; grind
theorem sum_top {x : Nat → F} {D : Int} {B : Nat} (h : ∀ j, ∃ n : Int, x j * ph F D = ph F n ∧ n.natAbs < 2 ^ B) : ∀ L : List Nat, ∃ n : Int, sm L x * ph F D = ph F n ∧ n.natAbs ≤ L.length * 2 ^ B
  | [] => ⟨0, by simp only [sm, ph_zero]; grind, by simp⟩
  | j :: L => by
    obtain ⟨n, a, b⟩ := h j
    obtain ⟨m, c, d⟩ := sum_top h L
    refine ⟨n + m, by simp only [sm]; rw [ph_add, ← a, ← c]; grind, ?_⟩
    have := Int.natAbs_add_le n m
    rw [List.length_cons, Nat.succ_mul]
    omega
theorem Com.sum {g B k : Nat} {ι : Type} {x : ι → Nat → F} (h : Com F g B (fun p : ι × Nat => x p.1 p.2)) (L : List Nat) (hk : L.length < 2 ^ k) : Com F g (B + k) (fun i => sm L (x i)) := fun g0 => by
  obtain ⟨D, h1, h2, h3⟩ := h g0
  have hp : 2 ^ B ≤ 2 ^ (B + k) := Nat.pow_le_pow_right (by decide) (by omega)
  refine ⟨D, h1, by omega, fun i => ?_⟩
  obtain ⟨n, a, b⟩ := sum_top (fun j => h3 (i, j)) L
  refine ⟨n, a, ?_⟩
  rw [Nat.pow_add, Nat.mul_comm]
  exact Nat.lt_of_le_of_lt b (Nat.mul_lt_mul_of_pos_right hk (Nat.pow_pos (by decide)))
/-- .. so a number in lowest terms is as small -/
theorem Com.sz [Lean.Grind.IsCharP F 0] {B : Nat} {ι : Type} {x : ι → F} (h : Com F 0 B x) (i : ι) {a b : Int} (hb : 1 ≤ b) (hc : Nat.gcd a.natAbs b.natAbs = 1) (e : val F a b = x i) : a.natAbs < 2 ^ B ∧ b.natAbs < 2 ^ B := by
  obtain ⟨D, h1, h2, h3⟩ := h rfl
  obtain ⟨n, h4, h5⟩ := h3 i
  have hb0 : ph F b ≠ 0 := fun h => by rw [ph_eq_zero 0] at h; omega
  have e2 : a * D = n * b := by
    rw [← ph_inj (F := F), ph_mul, ph_mul, ← h4, ← e, val]; grind
  have hD : D ≠ 0 := fun h => h1 (by rw [h, ph_zero])
  have e3 := congrArg Int.natAbs e2
  rw [Int.natAbs_mul, Int.natAbs_mul] at e3
  have d1 : b.natAbs ∣ D.natAbs := by
    have : b.natAbs ∣ a.natAbs * D.natAbs := by rw [e3]; exact Nat.dvd_mul_left _ _
    exact (Nat.Coprime.symm hc).dvd_of_dvd_mul_left this
  have d2 : a.natAbs ∣ n.natAbs := by
    have : a.natAbs ∣ n.natAbs * b.natAbs := by rw [← e3]; exact Nat.dvd_mul_right _ _
    exact Nat.Coprime.dvd_of_dvd_mul_right hc this
  have l1 := Nat.le_of_dvd (by omega) d1
  refine ⟨?_, by omega⟩
  by_cases hn : n = 0
  · subst hn
    have : a.natAbs * D.natAbs = 0 := by rw [e3]; simp
    have : a.natAbs = 0 := (Nat.mul_eq_zero.mp this).resolve_right (by omega)
    rw [this]; exact Nat.pow_pos (by decide)
  · have := Nat.le_of_dvd (by omega) d2
    omega

/-- rows r 0, .., r (k - 1) taken in one after the other -/
structure LS (F : Type) [Lean.Grind.Field F] (g : Nat) (r : Nat → Row) (k : Nat) (C : List Nat) (ρ : Nat → Nat → F) : Prop where
  red : Red C ρ
  ins : ∀ i, i < k → In C ρ (fun j => ph F (r i j))
  gen : ∀ c ∈ C, Gen (fun v => ∃ i, i < k ∧ v = fun j => ph F (r i j)) (ρ c)
  big : ∃ R, Good R C ∧ ph F (det R C) ≠ 0 ∧ (∀ x ∈ R, ∃ i, i < k ∧ x = r i) ∧ ∀ c ∈ C, ∀ j, ρ c j = rho F R C c j
  few : C.length ≤ k

theorem LS.init (g : Nat) (r : Nat → Row) (ρ : Nat → Nat → F) : LS F g r 0 [] ρ where
  red := ⟨List.nodup_nil, by simp, by simp, by simp⟩
  ins := fun i h => by omega
  gen := by simp
  big := ⟨[], Good.nil, by rw [show det [] [] = 1 from rfl, ph_one]; exact one_ne, by simp, by simp⟩
  few := Nat.le_refl _
/-- what is left of the next row -/
def left (F : Type) [Lean.Grind.Field F] (r : Nat → Row) (k : Nat) (C : List Nat) (ρ : Nat → Nat → F) (j : Nat) : F := ph F (r k j) - sm C (fun c => ph F (r k c) * ρ c j)
theorem Gen.mono {S T : (Nat → F) → Prop} (h : ∀ v, S v → T v) {v : Nat → F} (hv : Gen S v) : Gen T v := hv.trans fun v hs => .mem (h v hs)
theorem LS.left_low {g : Nat} {r : Nat → Row} {k : Nat} {C : List Nat} {ρ : Nat → Nat → F} (h : LS F g r k C ρ) {R : List Row} (hG : Good R C) (hd : ph F (det R C) ≠ 0) (hr : ∀ c ∈ C, ∀ j, ρ c j = rho F R C c j) (j : Nat) : left F r k C ρ j = ph F (low R C (r k) j) * (ph F (det R C))⁻¹ := by
  have h1 := congrArg (ph F) (hG.expand h.red.nodup (r k) j)
  rw [ph_add, ph_mul, ph_sm] at h1
  have h3 : sm C (fun c => ph F (r k c) * ρ c j) = (ph F (det R C))⁻¹ * sm C (fun c => ph F (r k c * upp R C c j)) := by
    rw [← sm_mul]
    exact sm_congr C (fun c hc => by rw [hr c hc]; simp only [rho, ph_mul]; grind)
  unfold left
  rw [h3]
  grind
theorem LS.none {g : Nat} {r : Nat → Row} {k : Nat} {C : List Nat} {ρ : Nat → Nat → F} (h : LS F g r k C ρ) (hz : ∀ j, left F r k C ρ j = 0) : LS F g r (k + 1) C ρ where
  red := h.red
  ins := fun i hi => by
    by_cases e : i = k
    · subst e; exact In.of_less (fun j => hz j)
    · exact h.ins i (by omega)
  gen := fun c hc => (h.gen c hc).mono fun v ⟨i, hi, e⟩ => ⟨i, by omega, e⟩
  big := by
    obtain ⟨R, h1, h2, h3, h4⟩ := h.big
    exact ⟨R, h1, h2, fun x hx => by obtain ⟨i, hi, e⟩ := h3 x hx; exact ⟨i, by omega, e⟩, h4⟩
  few := by have := h.few; omega
theorem LS.take {g : Nat} {r : Nat → Row} {k : Nat} {C : List Nat} {ρ : Nat → Nat → F} (h : LS F g r k C ρ) {l : Nat} (hl : left F r k C ρ l ≠ 0) (hf : ∀ j, j < l → left F r k C ρ j = 0) : LS F g r (k + 1) (C ++ [l]) (more ρ (left F r k C ρ) l) := by
  have hz : ∀ c ∈ C, left F r k C ρ c = 0 := fun c hc => h.red.less_lead (fun j => ph F (r k j)) hc
  have hlC : l ∉ C := fun hc => hl (hz l hc)
  refine ⟨h.red.more hl hf hz, fun i hi => ?_, fun c hc => ?_, ?_, by simp; exact h.few⟩
  · by_cases e : i = k
    · subst e; exact In.more_row h.red hl (fun j => rfl)
    · exact In.more hl hz (h.ins i (by omega))
  · have gk : Gen (fun v => ∃ i, i < k + 1 ∧ v = fun j => ph F (r i j)) (left F r k C ρ) := by
      have h1 : Gen (fun v => ∃ i, i < k + 1 ∧ v = fun j => ph F (r i j)) (fun j => ph F (r k j)) := .mem ⟨k, by omega, rfl⟩
      have h2 := Gen.sum (S := fun v => ∃ i, i < k + 1 ∧ v = fun j => ph F (r i j)) (fun c => ph F (r k c)) ρ C fun c hc => (h.gen c hc).mono fun v ⟨i, hi, e⟩ => ⟨i, by omega, e⟩
      have h3 := h1.sub 1 h2
      have e : (fun j => ph F (r k j) - 1 * sm C (fun d => ph F (r k d) * ρ d j)) = left F r k C ρ := funext fun j => by unfold left; grind
      rwa [e] at h3
    rcases List.mem_append.1 hc with hc | hc
    · have hne : c ≠ l := fun e => hlC (e ▸ hc)
      have h1 := ((h.gen c hc).mono (T := fun v => ∃ i, i < k + 1 ∧ v = fun j => ph F (r i j)) fun v ⟨i, hi, e⟩ => ⟨i, by omega, e⟩).sub (ρ c l * (left F r k C ρ l)⁻¹) gk
      have e : (fun j => ρ c j - ρ c l * (left F r k C ρ l)⁻¹ * left F r k C ρ j) = more ρ (left F r k C ρ) l c := funext fun j => by rw [more_old hne]; grind
      rwa [e] at h1
    · rw [List.mem_singleton.1 hc]
      have h1 := gk.mul ((left F r k C ρ l)⁻¹)
      have e : (fun j => (left F r k C ρ l)⁻¹ * left F r k C ρ j) = more ρ (left F r k C ρ) l l := funext fun j => by rw [more_new]
      rwa [e] at h1
  · obtain ⟨R, hG, hd, hR, hr⟩ := h.big
    have hv := h.left_low hG hd hr
    have hp : ph F (low R C (r k) l) ≠ 0 := fun e => hl (by rw [hv, e]; grind)
    have hp0 : low R C (r k) l ≠ 0 := fun e => hp (by rw [e, ph_zero])
    refine ⟨R ++ [r k], hG.push hp0, hp, fun x hx => ?_, fun c hc j => ?_⟩
    · rcases List.mem_append.1 hx with hx | hx
      · obtain ⟨i, hi, e⟩ := hR x hx; exact ⟨i, by omega, e⟩
      · exact ⟨k, by omega, List.mem_singleton.1 hx⟩
    · unfold rho
      rw [det_push]
      rcases List.mem_append.1 hc with hc | hc
      · have hne : c ≠ l := fun e => hlC (e ▸ hc)
        have h2 := congrArg (ph F) (hG.upp_step hp0 hc j)
        simp only [ph_sub, ph_mul] at h2
        rw [more_old hne, hr c hc, hr c hc, hv, hv]
        unfold rho
        grind
      · rw [List.mem_singleton.1 hc, more_new, hG.upp_new hp0, hv, hv]
        grind
theorem LS.com [Lean.Grind.IsCharP F 0] {r : Nat → Row} {k : Nat} {C : List Nat} {ρ : Nat → Nat → F} (h : LS F 0 r k C ρ) (hk : k ≤ 12) {B : Nat} (hb : ∀ i, i < k → ∀ j, (r i j).natAbs < 2 ^ B) : Com F 0 (13 * (B + 4) + 1) (fun p : {c // c ∈ C} × Nat => ρ p.1 p.2) := fun _ => by
  obtain ⟨R, hG, hd, hR, hr⟩ := h.big
  have h12 : R.length ≤ 12 := by rw [← hG.len]; have := h.few; omega
  have hle : ∀ x ∈ R, ∀ c, (x c).natAbs ≤ 2 ^ B := fun x hx c => by
    obtain ⟨i, hi, rfl⟩ := hR x hx
    exact Nat.le_of_lt (hb i hi c)
  have h1 := det_le13 hle (Nat.pow_pos (by decide)) hG.len h12
  have h2 := pow_grow B
  refine ⟨det R C, hd, by omega, fun p => ⟨upp R C p.1 p.2, ?_, ?_⟩⟩
  · show ρ p.1 p.2 * _ = _
    rw [hr p.1 p.1.2]; unfold rho; grind
  · have := upp_le hle (Nat.pow_pos (by decide)) hG.len h12 p.1 p.2
    omega

theorem least_ne {f : Nat → F} (h : ¬ ∀ j, f j = 0) : ∃ c, f c ≠ 0 ∧ ∀ j, j < c → f j = 0 := by
  have key : ∀ n, (∀ j, j < n → f j = 0) ∨ ∃ c, f c ≠ 0 ∧ ∀ j, j < c → f j = 0 := by
    intro n
    induction n with
    | zero => exact .inl fun j hj => by omega
    | succ n ih =>
      rcases ih with ih | ih
      · by_cases e : f n = 0
        · refine .inl fun j hj => ?_
          by_cases ej : j = n
          · rw [ej]; exact e
          · exact ih j (by omega)
        · exact .inr ⟨n, e, ih⟩
      · exact .inr ih
  refine Classical.byContradiction fun hn => h fun j => ?_
  rcases key (j + 1) with h1 | h1
  · exact h1 j (by omega)
  · exact absurd h1 hn
theorem mul_zero_left {x b : F} (hb : b ≠ 0) (h : x * b = 0) : x = 0 := by grind
/-- reduced rows of the rows of S -/
structure RB (S : (Nat → F) → Prop) (C : List Nat) (ρ : Nat → Nat → F) : Prop where
  red : Red C ρ
  asc : C.Pairwise (· < ·)
  ins : ∀ v, S v → In C ρ v
  gen : ∀ c ∈ C, Gen S (ρ c)
theorem asc_eq : ∀ {C D : List Nat}, C.Pairwise (· < ·) → D.Pairwise (· < ·) → (∀ c, c ∈ C ↔ c ∈ D) → C = D
  | [], [], _, _, _ => rfl
  | [], d :: D, _, _, h => absurd ((h d).2 (by simp)) (by simp)
  | c :: C, [], _, _, h => absurd ((h c).1 (by simp)) (by simp)
  | c :: C, d :: D, hC, hD, h => by
    have hC' := List.pairwise_cons.1 hC
    have hD' := List.pairwise_cons.1 hD
    have e : c = d := by
      have h1 := (h c).1 (by simp)
      have h2 := (h d).2 (by simp)
      rcases List.mem_cons.1 h1 with e | h1
      · exact e
      · rcases List.mem_cons.1 h2 with e | h2
        · exact e.symm
        · have := hC'.1 d h2
          have := hD'.1 c h1
          omega
    subst e
    rw [asc_eq hC'.2 hD'.2 fun x => ?_]
    have hx := h x
    simp only [List.mem_cons] at hx
    constructor
    · intro hm
      rcases hx.1 (.inr hm) with e | e
      · have := hC'.1 x hm; omega
      · exact e
    · intro hm
      rcases hx.2 (.inr hm) with e | e
      · have := hD'.1 x hm; omega
      · exact e
theorem RB.same {S : (Nat → F) → Prop} {C D : List Nat} {ρ σ : Nat → Nat → F} (h : RB S C ρ) (k : RB S D σ) : C = D ∧ ∀ c ∈ C, ∀ j, ρ c j = σ c j := by
  obtain ⟨h1, h2⟩ := h.red.same k.red h.ins k.ins h.gen k.gen
  exact ⟨asc_eq h.asc k.asc h1, h2⟩
theorem RB.of_span {S T : (Nat → F) → Prop} {C : List Nat} {ρ : Nat → Nat → F} (h : RB S C ρ) (h1 : ∀ v, S v → Gen T v) (h2 : ∀ v, T v → Gen S v) : RB T C ρ :=
  ⟨h.red, h.asc, fun v hv => (h2 v hv).in h.ins, fun c hc => (h.gen c hc).trans h1⟩
theorem Red.perm {C D : List Nat} {ρ : Nat → Nat → F} (h : Red C ρ) (p : D.Perm C) : Red D ρ :=
  ⟨p.nodup_iff.2 h.nodup, fun c hc => h.one c (p.mem_iff.1 hc), fun c hc d hd => h.zero c (p.mem_iff.1 hc) d (p.mem_iff.1 hd), fun c hc => h.first c (p.mem_iff.1 hc)⟩
theorem LS.rb {g : Nat} {r : Nat → Row} {k : Nat} {C D : List Nat} {ρ : Nat → Nat → F} (h : LS F g r k C ρ) (p : D.Perm C) (ha : D.Pairwise (· < ·)) : RB (fun v => ∃ i, i < k ∧ v = fun j => ph F (r i j)) D ρ :=
  ⟨h.red.perm p, ha, fun v ⟨i, hi, e⟩ => by
    subst e
    intro j
    rw [sm_perm _ p]
    exact h.ins i hi j, fun c hc => h.gen c (p.mem_iff.1 hc)⟩
theorem gen_mix : ∀ (R : List Row) (T : List Int), T.length = R.length → Gen (fun v => ∃ x ∈ R, v = fun j => ph F (x j)) (fun j => ph F (mix T R j))
  | [], T, _ => by
    have e : (fun j => ph F (mix T [] j)) = fun _ : Nat => (0 : F) := funext fun j => by cases T <;> exact ph_zero
    rw [e]; exact .zero
  | x :: R, [], h => absurd h (by simp)
  | x :: R, t :: T, h => by
    have h1 := (gen_mix R T (by simpa using h)).mono (T := fun v => ∃ y ∈ x :: R, v = fun j => ph F (y j)) fun v ⟨y, hy, e⟩ => ⟨y, by simp [hy], e⟩
    have h2 : Gen (fun v => ∃ y ∈ x :: R, v = fun j => ph F (y j)) (fun j => ph F (x j)) := .mem ⟨x, by simp, rfl⟩
    have h3 := (h2.mul (ph F t)).add h1
    have e : (fun j => ph F t * ph F (x j) + ph F (mix T R j)) = fun j => ph F (mix (t :: T) (x :: R) j) := funext fun j => by simp only [mix, ph_add, ph_mul]
    rwa [e] at h3
theorem zero_beyond {R : List Row} {W : Nat} {f : Row} (h : InSpan R f) (hz : ∀ x ∈ R, ∀ j, W ≤ j → x j = 0) : ∀ j, W ≤ j → f j = 0 := by
  obtain ⟨T, hT, h⟩ := h
  intro j hj
  rw [h]
  clear h
  induction R generalizing T with
  | nil => cases T <;> rfl
  | cons x R ih =>
    cases T with
    | nil => rfl
    | cons t T =>
      simp only [mix]
      rw [hz x (by simp) j hj, ih (fun y hy => hz y (by simp [hy])) T (by simpa using hT)]
      simp
theorem CSt.rb {g : Nat} {A : List (List Int)} {W : Nat} {M : List (List Int)} {C : List Nat} {lead : Int} {R X : List Row} (h : CSt F g A W W M C lead R X) (hW : ∀ ns ∈ A, ns.length = W) : RB (fun v => ∃ ns ∈ A, v = fun j => ph F (fn ns j)) C (rho F R C) := by
  have hA : ∀ x, x ∈ R ++ X ↔ ∃ ns ∈ A, fn ns = x := fun x => by rw [h.perm.mem_iff, List.mem_map]
  have hz : ∀ x ∈ R ++ X, ∀ j, W ≤ j → x j = 0 := fun x hx j hj => by
    obtain ⟨ns, hns, rfl⟩ := (hA x).1 hx
    unfold fn
    rw [List.getD_eq_getElem?_getD, List.getElem?_eq_none (by rw [hW ns hns]; exact hj)]; rfl
  refine ⟨h.cl.red, h.cl.asc, fun v ⟨ns, hns, e⟩ => ?_, fun c hc => ?_⟩
  · subst e
    intro j
    have hm := (hA (fn ns)).2 ⟨ns, hns, rfl⟩
    by_cases hj : j < W
    · refine h.cl.inAt (fn ns) j ?_
      rcases List.mem_append.1 hm with hm | hm
      · rw [h.cl.good.low_row hm, ph_zero]
      · exact h.cl.lowz _ hm j hj
    · have hj2 : W ≤ j := by omega
      show ph F (fn ns j) = sm C fun c => ph F (fn ns c) * rho F R C c j
      rw [hz _ hm j hj2, ph_zero, sm_zero]
      intro c hc
      have : rho F R C c j = 0 := by
        unfold rho
        rw [zero_beyond (upp_span R C c) (fun x hx => hz x (by simp [hx])) j hj2, ph_zero]; grind
      rw [this]; grind
  · obtain ⟨T, hT, e⟩ := upp_span R C c
    have h1 := (gen_mix (F := F) R T hT).mul ((ph F (det R C))⁻¹)
    have h2 : (fun j => (ph F (det R C))⁻¹ * ph F (mix T R j)) = rho F R C c := funext fun j => by unfold rho; rw [e]; grind
    rw [h2] at h1
    exact h1.mono fun v ⟨x, hx, e⟩ => by
      obtain ⟨ns, hns, rfl⟩ := (hA x).1 (by simp [hx])
      exact ⟨ns, hns, e⟩
theorem Gen.coef {J : List Nat} {u : Nat → Nat → F} (hJ : J.Nodup) {v : Nat → F} (hv : Gen (fun v => ∃ j ∈ J, v = u j) v) : ∃ m : Nat → F, ∀ i, v i = sm J (fun j => m j * u j i) := by
  induction hv with
  | mem hs =>
    obtain ⟨j, hj, rfl⟩ := hs
    refine ⟨fun k => if k = j then 1 else 0, fun i => ?_⟩
    dsimp only
    rw [sm_delta _ j J hJ hj (fun k hk hn => by rw [if_neg hn]; grind), if_pos rfl]; grind
  | zero => exact ⟨fun _ => 0, fun i => by rw [sm_zero]; intro j _; grind⟩
  | add _ _ h1 h2 =>
    obtain ⟨m, h1⟩ := h1
    obtain ⟨n, h2⟩ := h2
    refine ⟨fun j => m j + n j, fun i => ?_⟩
    dsimp only
    rw [h1, h2, ← sm_add]
    exact sm_congr _ fun j _ => by grind
  | mul k _ h1 =>
    obtain ⟨m, h1⟩ := h1
    refine ⟨fun j => k * m j, fun i => ?_⟩
    dsimp only
    rw [h1, ← sm_mul]
    exact sm_congr _ fun j _ => by grind
theorem rank_le {a : Nat → Nat → F} {h W : Nat} {C D : List Nat} {ρ σ : Nat → Nat → F} (hC : RB (fun v => ∃ i, i < h ∧ v = a i) C ρ) (hD : RB (fun v => ∃ j, j < W ∧ v = fun i => a i j) D σ) (hz : ∀ i j, h ≤ i → a i j = 0) : D.length ≤ C.length := by
  have hg : ∀ d ∈ D, ∃ m : Nat → F, ∀ i, σ d i = sm (List.range W) (fun j => m j * a i j) := fun d hd =>
    Gen.coef (u := fun j i => a i j) List.nodup_range ((hD.gen d hd).mono fun v ⟨j, hj, e⟩ => ⟨j, by simpa using hj, e⟩)
  classical
  refine turn_le (J := List.range W) (ρ := ρ) a (fun d => if hd : d ∈ D then (hg d hd).choose else fun _ => 0) hD.red (fun i hi j _ => ?_) (fun d hd i _ => ?_)
  · by_cases e : i < h
    · exact hC.ins _ ⟨i, e, rfl⟩ j
    · rw [hz i j (by omega), sm_zero]
      intro c _
      rw [hz i c (by omega)]; grind
  · simp only [dif_pos hd]
    exact (hg d hd).choose_spec i
theorem rank_eq {a : Nat → Nat → F} {h W : Nat} {C D : List Nat} {ρ σ : Nat → Nat → F} (hC : RB (fun v => ∃ i, i < h ∧ v = a i) C ρ) (hD : RB (fun v => ∃ j, j < W ∧ v = fun i => a i j) D σ) (hz : ∀ i j, h ≤ i → a i j = 0) (hz2 : ∀ i j, W ≤ j → a i j = 0) : C.length = D.length := by
  have h1 := rank_le hC hD hz
  have h2 := rank_le (a := fun j i => a i j) (h := W) (W := h) hD hC (fun i j hi => hz2 j i hi)
  omega
end
end Lin

namespace L2.Z
open PySem PySem.Spec PyProof.Rows
local macro_rules | `(tactic| walk_at "z") => `(tactic| (try simp only [↓z_var0, ↓z_varS, ↓z_C, ↓z_op, ↓z_un, ↓z_I0, ↓z_I, ↓z_U, ↓z_eqI, ↓z_neI, ↓z_bl, ↓z_test, ↓z_B, ↓z_and, ↓z_or, ↓z_not, ↓z_andV, ↓z_orV, ↓z_notV, ↓z_if, ↓z_ifS, ↓z_seq, ↓z_next, ↓z_ret, ↓z_retN, ↓z_asg, ↓z_gname, ↓z_drop, ↓z_nil, ↓z_cons, ↓z_call, ↓z_CB, ↓z_par, ↓z_pair, ↓z_aug0, ↓z_ipI, ↓z_abs, ↓z_max, ↓z_min, ↓z_int, ↓z_intB, ↓z_gcd, ↓z_tup, ↓z_lst, ↓z_chain, z_some, z_bl, z_pair, decide_eq_true_eq, Bool.not_eq_true', decide_eq_false_iff_not, List.set_cons_zero, List.set_cons_succ, List.getElem?_cons_zero, List.getElem?_cons_succ, Bool.false_eq_true, Bool.true_eq_false, if_true, if_false, ↓reduceIte, ↓z_isN, ↓z_gtup, ↓z_gcons, ↓z_gnil, ↓z_yes, ↓z_wipe0, ↓z_wipeS, ↓z_itup, ↓z_ilist, ↓z_irng1, ↓z_irng2, ↓z_lc, ↓z_lc2, ↓z_izip, ↓z_ient, ↓z_chain3, ↓z_inT, ↓z_izipX, ↓z_iseqB, ↓z_augS, ↓z_irevA, ↓z_ct, ↓z_revL, ↓z_lenSc, ↓z_raise1, ↓z_raise0, ↓z_lam, ↓z_callS, ↓z_par3, z_trip, ↓z_rg1, ↓z_rg2, z_ii, z_i1, ↓z_lstrg, ↓z_disp, ↓z_tp0, ↓z_tpS, ↓z_dnew, ↓z_din, ↓z_tru, ↓z_dget, ↓z_dget2, ↓z_dput, ↓z_cont, ↓z_sl, ↓z_part, ↓z_nopart, ↓z_strI, ↓z_gsub, ↓z_for, true_and, and_true, decide_true, decide_false, not_true_eq_false, not_false_eq_true, ↓z_bm, ↓z_bm0, ↓z_notN, z_dn1, z_dn2, z_dn3, z_dn4, z_dn5, Nat.zero_add, Nat.reduceAdd, Nat.reduceSub, List.replicate_succ, List.replicate_zero, start, List.map_cons, List.map_nil, List.length_cons, List.length_nil, List.cons_append, List.nil_append]))
def top (i : Nat) : Stmt := PySem.Challenge.pw_zeroorone_k37_errors_of_real_roots.main.body.getD i (.Pass ⟨0, 0, 0, 0⟩)
abbrev s_is_int : Stmt := top 8
abbrev s_bezout : Stmt := top 12
abbrev s_common_multiple : Stmt := top 14
abbrev s_top_of : Stmt := top 16
abbrev s_bottom_of : Stmt := top 17
abbrev s_sign_of : Stmt := top 20
abbrev s_without_zeros : Stmt := top 29
abbrev s_degree_of : Stmt := top 31
abbrev s_root_bound : Stmt := top 64
abbrev s_is_below : Stmt := top 9
abbrev s_undone_modulo : Stmt := top 13
abbrev s_is_zero : Stmt := top 18
abbrev s_whole_row : Stmt := top 19
abbrev s_sign_of_difference : Stmt := top 21
abbrev s_sign_at : Stmt := top 45
abbrev s_number_fits : Stmt := top 10
abbrev s_quotient : Stmt := top 15
abbrev s_is_at_most : Stmt := top 22
abbrev s_opened : Stmt := top 27
abbrev s_settled : Stmt := top 30
abbrev s_divided_modulo : Stmt := top 32
abbrev s_changes_at : Stmt := top 46
abbrev s_later_of : Stmt := top 48
abbrev s_earlier_of : Stmt := top 49
abbrev s_is_stretch : Stmt := top 50
abbrev s_vector_fits : Stmt := top 11
abbrev s_closed : Stmt := top 28
abbrev s_divided_by : Stmt := top 33
abbrev s_monic : Stmt := top 35
abbrev s_slope : Stmt := top 36
abbrev s_changes_between : Stmt := top 47
abbrev s_check_end : Stmt := top 54
abbrev s_check_stretch : Stmt := top 55
abbrev s_turned_rest_of : Stmt := top 56
abbrev s_with_ends : Stmt := top 65
abbrev s_middle : Stmt := top 66
abbrev s_poly_fits : Stmt := top 26
abbrev s_over_poly : Stmt := top 34
abbrev s_common_part : Stmt := top 38
abbrev s_closed_all : Stmt := top 43
abbrev s_roots_between : Stmt := top 59
abbrev s_check_poly : Stmt := top 41
abbrev s_chain_of : Stmt := top 57
abbrev s_chain_paper : Stmt := top 58
abbrev s_check_alone : Stmt := top 62
abbrev s_half_with_root : Stmt := top 67
abbrev s_inner_of : Stmt := top 42
abbrev s_common_paper : Stmt := top 68
abbrev s_apart : Stmt := top 70
abbrev s_order_paper : Stmt := top 71
abbrev s_inner_other_than_0 : Stmt := top 53
abbrev s_asked_chain : Stmt := top 60
abbrev s_sign_answer : Stmt := top 69
abbrev s_root_order_answer : Stmt := top 72
abbrev s_root_stretches : Stmt := top 73
abbrev s_roots_answer : Stmt := top 61
abbrev s_alone_answer : Stmt := top 63
abbrev s__law_dice : Stmt := top 75
abbrev s__law_roll : Stmt := top 76
abbrev s__law_gcd : Stmt := top 78
abbrev s__law_pick : Stmt := top 77
abbrev s__law_fraction : Stmt := top 79
abbrev s__law_plus : Stmt := top 80
abbrev s__law_ends_right : Stmt := top 82
abbrev s__law_rest_right : Stmt := top 83
abbrev s_law : Stmt := top 84
abbrev s__law_word : Stmt := top 81
def bm_ArithmeticError : List Value := [.type "ArithmeticError", .type "Exception", .type "BaseException", .type "object"]
def bm_IndexError : List Value := [.type "IndexError", .type "LookupError", .type "Exception", .type "BaseException", .type "object"]
structure Tx (K : PySem.W.Frag) (mg : Str → Option Value) : Prop where
  f_is_int : ∃ fd, FunD K "is_int" "is_int" (defArgs s_is_int) (defBody s_is_int) (defScope s_is_int) [] [] (He.ga K "is_int") fd
  g_is_int : mg "is_int" = some (.ref (He.ga K "is_int"))
  f_bezout : ∃ fd, FunD K "bezout" "bezout" (defArgs s_bezout) (defBody s_bezout) (defScope s_bezout) [] [] (He.ga K "bezout") fd
  g_bezout : mg "bezout" = some (.ref (He.ga K "bezout"))
  f_common_multiple : ∃ fd, FunD K "common_multiple" "common_multiple" (defArgs s_common_multiple) (defBody s_common_multiple) (defScope s_common_multiple) [] [] (He.ga K "common_multiple") fd
  g_common_multiple : mg "common_multiple" = some (.ref (He.ga K "common_multiple"))
  f_top_of : ∃ fd, FunD K "top_of" "top_of" (defArgs s_top_of) (defBody s_top_of) (defScope s_top_of) [] [] (He.ga K "top_of") fd
  g_top_of : mg "top_of" = some (.ref (He.ga K "top_of"))
  f_bottom_of : ∃ fd, FunD K "bottom_of" "bottom_of" (defArgs s_bottom_of) (defBody s_bottom_of) (defScope s_bottom_of) [] [] (He.ga K "bottom_of") fd
  g_bottom_of : mg "bottom_of" = some (.ref (He.ga K "bottom_of"))
  f_sign_of : ∃ fd, FunD K "sign_of" "sign_of" (defArgs s_sign_of) (defBody s_sign_of) (defScope s_sign_of) [] [] (He.ga K "sign_of") fd
  g_sign_of : mg "sign_of" = some (.ref (He.ga K "sign_of"))
  f_without_zeros : ∃ fd, FunD K "without_zeros" "without_zeros" (defArgs s_without_zeros) (defBody s_without_zeros) (defScope s_without_zeros) [] [] (He.ga K "without_zeros") fd
  g_without_zeros : mg "without_zeros" = some (.ref (He.ga K "without_zeros"))
  f_degree_of : ∃ fd, FunD K "degree_of" "degree_of" (defArgs s_degree_of) (defBody s_degree_of) (defScope s_degree_of) [] [] (He.ga K "degree_of") fd
  g_degree_of : mg "degree_of" = some (.ref (He.ga K "degree_of"))
  f_root_bound : ∃ fd, FunD K "root_bound" "root_bound" (defArgs s_root_bound) (defBody s_root_bound) (defScope s_root_bound) [] [] (He.ga K "root_bound") fd
  g_root_bound : mg "root_bound" = some (.ref (He.ga K "root_bound"))
  f_is_below : ∃ fd, FunD K "is_below" "is_below" (defArgs s_is_below) (defBody s_is_below) (defScope s_is_below) [] [] (He.ga K "is_below") fd
  g_is_below : mg "is_below" = some (.ref (He.ga K "is_below"))
  f_undone_modulo : ∃ fd, FunD K "undone_modulo" "undone_modulo" (defArgs s_undone_modulo) (defBody s_undone_modulo) (defScope s_undone_modulo) [] [] (He.ga K "undone_modulo") fd
  g_undone_modulo : mg "undone_modulo" = some (.ref (He.ga K "undone_modulo"))
  f_is_zero : ∃ fd, FunD K "is_zero" "is_zero" (defArgs s_is_zero) (defBody s_is_zero) (defScope s_is_zero) [] [] (He.ga K "is_zero") fd
  g_is_zero : mg "is_zero" = some (.ref (He.ga K "is_zero"))
  f_whole_row : ∃ fd, FunD K "whole_row" "whole_row" (defArgs s_whole_row) (defBody s_whole_row) (defScope s_whole_row) [] [] (He.ga K "whole_row") fd
  g_whole_row : mg "whole_row" = some (.ref (He.ga K "whole_row"))
  f_sign_of_difference : ∃ fd, FunD K "sign_of_difference" "sign_of_difference" (defArgs s_sign_of_difference) (defBody s_sign_of_difference) (defScope s_sign_of_difference) [] [] (He.ga K "sign_of_difference") fd
  g_sign_of_difference : mg "sign_of_difference" = some (.ref (He.ga K "sign_of_difference"))
  f_sign_at : ∃ fd, FunD K "sign_at" "sign_at" (defArgs s_sign_at) (defBody s_sign_at) (defScope s_sign_at) [] [] (He.ga K "sign_at") fd
  g_sign_at : mg "sign_at" = some (.ref (He.ga K "sign_at"))
  f_number_fits : ∃ fd, FunD K "number_fits" "number_fits" (defArgs s_number_fits) (defBody s_number_fits) (defScope s_number_fits) [] [] (He.ga K "number_fits") fd
  g_number_fits : mg "number_fits" = some (.ref (He.ga K "number_fits"))
  f_quotient : ∃ fd, FunD K "quotient" "quotient" (defArgs s_quotient) (defBody s_quotient) (defScope s_quotient) [] [] (He.ga K "quotient") fd
  g_quotient : mg "quotient" = some (.ref (He.ga K "quotient"))
  f_is_at_most : ∃ fd, FunD K "is_at_most" "is_at_most" (defArgs s_is_at_most) (defBody s_is_at_most) (defScope s_is_at_most) [] [] (He.ga K "is_at_most") fd
  g_is_at_most : mg "is_at_most" = some (.ref (He.ga K "is_at_most"))
  f_opened : ∃ fd, FunD K "opened" "opened" (defArgs s_opened) (defBody s_opened) (defScope s_opened) [] [] (He.ga K "opened") fd
  g_opened : mg "opened" = some (.ref (He.ga K "opened"))
  f_settled : ∃ fd, FunD K "settled" "settled" (defArgs s_settled) (defBody s_settled) (defScope s_settled) [] [] (He.ga K "settled") fd
  g_settled : mg "settled" = some (.ref (He.ga K "settled"))
  f_divided_modulo : ∃ fd, FunD K "divided_modulo" "divided_modulo" (defArgs s_divided_modulo) (defBody s_divided_modulo) (defScope s_divided_modulo) [] [] (He.ga K "divided_modulo") fd
  g_divided_modulo : mg "divided_modulo" = some (.ref (He.ga K "divided_modulo"))
  f_changes_at : ∃ fd, FunD K "changes_at" "changes_at" (defArgs s_changes_at) (defBody s_changes_at) (defScope s_changes_at) [] [] (He.ga K "changes_at") fd
  g_changes_at : mg "changes_at" = some (.ref (He.ga K "changes_at"))
  f_later_of : ∃ fd, FunD K "later_of" "later_of" (defArgs s_later_of) (defBody s_later_of) (defScope s_later_of) [] [] (He.ga K "later_of") fd
  g_later_of : mg "later_of" = some (.ref (He.ga K "later_of"))
  f_earlier_of : ∃ fd, FunD K "earlier_of" "earlier_of" (defArgs s_earlier_of) (defBody s_earlier_of) (defScope s_earlier_of) [] [] (He.ga K "earlier_of") fd
  g_earlier_of : mg "earlier_of" = some (.ref (He.ga K "earlier_of"))
  f_is_stretch : ∃ fd, FunD K "is_stretch" "is_stretch" (defArgs s_is_stretch) (defBody s_is_stretch) (defScope s_is_stretch) [] [] (He.ga K "is_stretch") fd
  g_is_stretch : mg "is_stretch" = some (.ref (He.ga K "is_stretch"))
  f_vector_fits : ∃ fd, FunD K "vector_fits" "vector_fits" (defArgs s_vector_fits) (defBody s_vector_fits) (defScope s_vector_fits) [] [] (He.ga K "vector_fits") fd
  g_vector_fits : mg "vector_fits" = some (.ref (He.ga K "vector_fits"))
  f_closed : ∃ fd, FunD K "closed" "closed" (defArgs s_closed) (defBody s_closed) (defScope s_closed) [] [] (He.ga K "closed") fd
  g_closed : mg "closed" = some (.ref (He.ga K "closed"))
  f_divided_by : ∃ fd, FunD K "divided_by" "divided_by" (defArgs s_divided_by) (defBody s_divided_by) (defScope s_divided_by) [] [] (He.ga K "divided_by") fd
  g_divided_by : mg "divided_by" = some (.ref (He.ga K "divided_by"))
  f_monic : ∃ fd, FunD K "monic" "monic" (defArgs s_monic) (defBody s_monic) (defScope s_monic) [] [] (He.ga K "monic") fd
  g_monic : mg "monic" = some (.ref (He.ga K "monic"))
  f_slope : ∃ fd, FunD K "slope" "slope" (defArgs s_slope) (defBody s_slope) (defScope s_slope) [] [] (He.ga K "slope") fd
  g_slope : mg "slope" = some (.ref (He.ga K "slope"))
  f_changes_between : ∃ fd, FunD K "changes_between" "changes_between" (defArgs s_changes_between) (defBody s_changes_between) (defScope s_changes_between) [] [] (He.ga K "changes_between") fd
  g_changes_between : mg "changes_between" = some (.ref (He.ga K "changes_between"))
  f_check_end : ∃ fd, FunD K "check_end" "check_end" (defArgs s_check_end) (defBody s_check_end) (defScope s_check_end) [] [] (He.ga K "check_end") fd
  g_check_end : mg "check_end" = some (.ref (He.ga K "check_end"))
  f_check_stretch : ∃ fd, FunD K "check_stretch" "check_stretch" (defArgs s_check_stretch) (defBody s_check_stretch) (defScope s_check_stretch) [] [] (He.ga K "check_stretch") fd
  g_check_stretch : mg "check_stretch" = some (.ref (He.ga K "check_stretch"))
  f_turned_rest_of : ∃ fd, FunD K "turned_rest_of" "turned_rest_of" (defArgs s_turned_rest_of) (defBody s_turned_rest_of) (defScope s_turned_rest_of) [] [] (He.ga K "turned_rest_of") fd
  g_turned_rest_of : mg "turned_rest_of" = some (.ref (He.ga K "turned_rest_of"))
  f_with_ends : ∃ fd, FunD K "with_ends" "with_ends" (defArgs s_with_ends) (defBody s_with_ends) (defScope s_with_ends) [] [] (He.ga K "with_ends") fd
  g_with_ends : mg "with_ends" = some (.ref (He.ga K "with_ends"))
  f_middle : ∃ fd, FunD K "middle" "middle" (defArgs s_middle) (defBody s_middle) (defScope s_middle) [] [] (He.ga K "middle") fd
  g_middle : mg "middle" = some (.ref (He.ga K "middle"))
  f_poly_fits : ∃ fd, FunD K "poly_fits" "poly_fits" (defArgs s_poly_fits) (defBody s_poly_fits) (defScope s_poly_fits) [] [] (He.ga K "poly_fits") fd
  g_poly_fits : mg "poly_fits" = some (.ref (He.ga K "poly_fits"))
  f_over_poly : ∃ fd, FunD K "over_poly" "over_poly" (defArgs s_over_poly) (defBody s_over_poly) (defScope s_over_poly) [] [] (He.ga K "over_poly") fd
  g_over_poly : mg "over_poly" = some (.ref (He.ga K "over_poly"))
  f_common_part : ∃ fd, FunD K "common_part" "common_part" (defArgs s_common_part) (defBody s_common_part) (defScope s_common_part) [] [] (He.ga K "common_part") fd
  g_common_part : mg "common_part" = some (.ref (He.ga K "common_part"))
  f_closed_all : ∃ fd, FunD K "closed_all" "closed_all" (defArgs s_closed_all) (defBody s_closed_all) (defScope s_closed_all) [] [] (He.ga K "closed_all") fd
  g_closed_all : mg "closed_all" = some (.ref (He.ga K "closed_all"))
  f_roots_between : ∃ fd, FunD K "roots_between" "roots_between" (defArgs s_roots_between) (defBody s_roots_between) (defScope s_roots_between) [] [] (He.ga K "roots_between") fd
  g_roots_between : mg "roots_between" = some (.ref (He.ga K "roots_between"))
  f_check_poly : ∃ fd, FunD K "check_poly" "check_poly" (defArgs s_check_poly) (defBody s_check_poly) (defScope s_check_poly) [] [] (He.ga K "check_poly") fd
  g_check_poly : mg "check_poly" = some (.ref (He.ga K "check_poly"))
  f_chain_of : ∃ fd, FunD K "chain_of" "chain_of" (defArgs s_chain_of) (defBody s_chain_of) (defScope s_chain_of) [] [] (He.ga K "chain_of") fd
  g_chain_of : mg "chain_of" = some (.ref (He.ga K "chain_of"))
  f_chain_paper : ∃ fd, FunD K "chain_paper" "chain_paper" (defArgs s_chain_paper) (defBody s_chain_paper) (defScope s_chain_paper) [] [] (He.ga K "chain_paper") fd
  g_chain_paper : mg "chain_paper" = some (.ref (He.ga K "chain_paper"))
  f_check_alone : ∃ fd, FunD K "check_alone" "check_alone" (defArgs s_check_alone) (defBody s_check_alone) (defScope s_check_alone) [] [] (He.ga K "check_alone") fd
  g_check_alone : mg "check_alone" = some (.ref (He.ga K "check_alone"))
  f_half_with_root : ∃ fd, FunD K "half_with_root" "half_with_root" (defArgs s_half_with_root) (defBody s_half_with_root) (defScope s_half_with_root) [] [] (He.ga K "half_with_root") fd
  g_half_with_root : mg "half_with_root" = some (.ref (He.ga K "half_with_root"))
  f_inner_of : ∃ fd, FunD K "inner_of" "inner_of" (defArgs s_inner_of) (defBody s_inner_of) (defScope s_inner_of) [] [] (He.ga K "inner_of") fd
  g_inner_of : mg "inner_of" = some (.ref (He.ga K "inner_of"))
  f_common_paper : ∃ fd, FunD K "common_paper" "common_paper" (defArgs s_common_paper) (defBody s_common_paper) (defScope s_common_paper) [] [] (He.ga K "common_paper") fd
  g_common_paper : mg "common_paper" = some (.ref (He.ga K "common_paper"))
  f_apart : ∃ fd, FunD K "apart" "apart" (defArgs s_apart) (defBody s_apart) (defScope s_apart) [] [] (He.ga K "apart") fd
  g_apart : mg "apart" = some (.ref (He.ga K "apart"))
  f_order_paper : ∃ fd, FunD K "order_paper" "order_paper" (defArgs s_order_paper) (defBody s_order_paper) (defScope s_order_paper) [] [] (He.ga K "order_paper") fd
  g_order_paper : mg "order_paper" = some (.ref (He.ga K "order_paper"))
  f_inner_other_than_0 : ∃ fd, FunD K "inner_other_than_0" "inner_other_than_0" (defArgs s_inner_other_than_0) (defBody s_inner_other_than_0) (defScope s_inner_other_than_0) [] [] (He.ga K "inner_other_than_0") fd
  g_inner_other_than_0 : mg "inner_other_than_0" = some (.ref (He.ga K "inner_other_than_0"))
  f_asked_chain : ∃ fd, FunD K "asked_chain" "asked_chain" (defArgs s_asked_chain) (defBody s_asked_chain) (defScope s_asked_chain) [] [] (He.ga K "asked_chain") fd
  g_asked_chain : mg "asked_chain" = some (.ref (He.ga K "asked_chain"))
  f_sign_answer : ∃ fd, FunD K "sign_answer" "sign_answer" (defArgs s_sign_answer) (defBody s_sign_answer) (defScope s_sign_answer) [] [] (He.ga K "sign_answer") fd
  g_sign_answer : mg "sign_answer" = some (.ref (He.ga K "sign_answer"))
  f_root_order_answer : ∃ fd, FunD K "root_order_answer" "root_order_answer" (defArgs s_root_order_answer) (defBody s_root_order_answer) (defScope s_root_order_answer) [] [] (He.ga K "root_order_answer") fd
  g_root_order_answer : mg "root_order_answer" = some (.ref (He.ga K "root_order_answer"))
  f_root_stretches : ∃ fd, FunD K "root_stretches" "root_stretches" (defArgs s_root_stretches) (defBody s_root_stretches) (defScope s_root_stretches) [] [] (He.ga K "root_stretches") fd
  g_root_stretches : mg "root_stretches" = some (.ref (He.ga K "root_stretches"))
  f_roots_answer : ∃ fd, FunD K "roots_answer" "roots_answer" (defArgs s_roots_answer) (defBody s_roots_answer) (defScope s_roots_answer) [] [] (He.ga K "roots_answer") fd
  g_roots_answer : mg "roots_answer" = some (.ref (He.ga K "roots_answer"))
  f_alone_answer : ∃ fd, FunD K "alone_answer" "alone_answer" (defArgs s_alone_answer) (defBody s_alone_answer) (defScope s_alone_answer) [] [] (He.ga K "alone_answer") fd
  g_alone_answer : mg "alone_answer" = some (.ref (He.ga K "alone_answer"))
  f__law_dice : ∃ fd, FunD K "_law_dice" "_law_dice" (defArgs s__law_dice) (defBody s__law_dice) (defScope s__law_dice) [] [] (He.ga K "_law_dice") fd
  g__law_dice : mg "_law_dice" = some (.ref (He.ga K "_law_dice"))
  f__law_roll : ∃ fd, FunD K "_law_roll" "_law_roll" (defArgs s__law_roll) (defBody s__law_roll) (defScope s__law_roll) [] [] (He.ga K "_law_roll") fd
  g__law_roll : mg "_law_roll" = some (.ref (He.ga K "_law_roll"))
  f__law_gcd : ∃ fd, FunD K "_law_gcd" "_law_gcd" (defArgs s__law_gcd) (defBody s__law_gcd) (defScope s__law_gcd) [] [] (He.ga K "_law_gcd") fd
  g__law_gcd : mg "_law_gcd" = some (.ref (He.ga K "_law_gcd"))
  f__law_pick : ∃ fd, FunD K "_law_pick" "_law_pick" (defArgs s__law_pick) (defBody s__law_pick) (defScope s__law_pick) [] [] (He.ga K "_law_pick") fd
  g__law_pick : mg "_law_pick" = some (.ref (He.ga K "_law_pick"))
  f__law_fraction : ∃ fd, FunD K "_law_fraction" "_law_fraction" (defArgs s__law_fraction) (defBody s__law_fraction) (defScope s__law_fraction) [] [] (He.ga K "_law_fraction") fd
  g__law_fraction : mg "_law_fraction" = some (.ref (He.ga K "_law_fraction"))
  f__law_plus : ∃ fd, FunD K "_law_plus" "_law_plus" (defArgs s__law_plus) (defBody s__law_plus) (defScope s__law_plus) [] [] (He.ga K "_law_plus") fd
  g__law_plus : mg "_law_plus" = some (.ref (He.ga K "_law_plus"))
  f__law_ends_right : ∃ fd, FunD K "_law_ends_right" "_law_ends_right" (defArgs s__law_ends_right) (defBody s__law_ends_right) (defScope s__law_ends_right) [] [] (He.ga K "_law_ends_right") fd
  g__law_ends_right : mg "_law_ends_right" = some (.ref (He.ga K "_law_ends_right"))
  f__law_rest_right : ∃ fd, FunD K "_law_rest_right" "_law_rest_right" (defArgs s__law_rest_right) (defBody s__law_rest_right) (defScope s__law_rest_right) [] [] (He.ga K "_law_rest_right") fd
  g__law_rest_right : mg "_law_rest_right" = some (.ref (He.ga K "_law_rest_right"))
  f_law : ∃ fd, FunD K "law" "law" (defArgs s_law) (defBody s_law) (defScope s_law) [] [] (He.ga K "law") fd
  g_law : mg "law" = some (.ref (He.ga K "law"))
  c_SIXTY_DIGITS : ∃ t, mg "SIXTY_DIGITS" = some (.int 1000000000000000000000000000000000000000000000000000000000000 t)
  c_NOTHING : mg "NOTHING" = some (.ref (He.ga K "NOTHING")) ∧ ctOk K 9 (.tuple [.tuple [], .int (1)]) (.ref (He.ga K "NOTHING")) = true
  c_MAX_DEGREE : ∃ t, mg "MAX_DEGREE" = some (.int 12 t)
  c_ONE : mg "ONE" = some (.ref (He.ga K "ONE")) ∧ ctOk K 9 (.tuple [.int (1), .int (1)]) (.ref (He.ga K "ONE")) = true
  n_abs : mg "abs" = none
  n_all : mg "all" = none
  n_bool : mg "bool" = none
  n_enumerate : mg "enumerate" = none
  n_int : mg "int" = none
  n_isinstance : mg "isinstance" = none
  n_len : mg "len" = none
  n_list : mg "list" = none
  n_max : mg "max" = none
  n_min : mg "min" = none
  n_range : mg "range" = none
  n_repr : mg "repr" = none
  n_reversed : mg "reversed" = none
  n_tuple : mg "tuple" = none
  b_gcd : mg "gcd" = some (.builtin "math.gcd")
  e_InvalidPoly : mg "InvalidPoly" = some (.ref (He.ga K "InvalidPoly")) ∧ (PySem.W.excIn K (He.ga K "InvalidPoly") He.veBase "ValueError.__new__" = true ∧ PySem.W.keepIn K (.ref (He.ga K "InvalidPoly")) = true ∧ PySem.W.subIn K (.ref (He.ga K "InvalidPoly")) (.type "BaseException") = some true ∧ PySem.W.typeIn K (.ref (He.ga K "InvalidPoly")) = some (.type "type"))
  x_InvalidNumber : PySem.ZExc.ExI K mg "InvalidNumber" "given" "InvalidNumber.__init__" bm_IndexError "IndexError.__new__" (He.ga K "InvalidNumber") (He.ma K (He.ga K "InvalidNumber") "__init__")
  e_InvalidOperation : mg "InvalidOperation" = some (.ref (He.ga K "InvalidOperation")) ∧ (PySem.W.excIn K (He.ga K "InvalidOperation") He.veBase "ValueError.__new__" = true ∧ PySem.W.keepIn K (.ref (He.ga K "InvalidOperation")) = true ∧ PySem.W.subIn K (.ref (He.ga K "InvalidOperation")) (.type "BaseException") = some true ∧ PySem.W.typeIn K (.ref (He.ga K "InvalidOperation")) = some (.type "type"))
  x_Refused : PySem.ZExc.ExI K mg "Refused" "reason" "Refused.__init__" bm_ArithmeticError "ArithmeticError.__new__" (He.ga K "Refused") (He.ma K (He.ga K "Refused") "__init__")
  m_InvalidPoly_InvalidPoly : PySem.W.exmOne K (.ref (He.ga K "InvalidPoly")) (.ref (He.ga K "InvalidPoly")) = some true
  m_InvalidPoly_InvalidNumber : PySem.W.exmOne K (.ref (He.ga K "InvalidPoly")) (.ref (He.ga K "InvalidNumber")) = some false
  m_InvalidPoly_InvalidOperation : PySem.W.exmOne K (.ref (He.ga K "InvalidPoly")) (.ref (He.ga K "InvalidOperation")) = some false
  m_InvalidPoly_Refused : PySem.W.exmOne K (.ref (He.ga K "InvalidPoly")) (.ref (He.ga K "Refused")) = some false
  m_InvalidNumber_InvalidPoly : PySem.W.exmOne K (.ref (He.ga K "InvalidNumber")) (.ref (He.ga K "InvalidPoly")) = some false
  m_InvalidNumber_InvalidNumber : PySem.W.exmOne K (.ref (He.ga K "InvalidNumber")) (.ref (He.ga K "InvalidNumber")) = some true
  m_InvalidNumber_InvalidOperation : PySem.W.exmOne K (.ref (He.ga K "InvalidNumber")) (.ref (He.ga K "InvalidOperation")) = some false
  m_InvalidNumber_Refused : PySem.W.exmOne K (.ref (He.ga K "InvalidNumber")) (.ref (He.ga K "Refused")) = some false
  m_InvalidOperation_InvalidPoly : PySem.W.exmOne K (.ref (He.ga K "InvalidOperation")) (.ref (He.ga K "InvalidPoly")) = some false
  m_InvalidOperation_InvalidNumber : PySem.W.exmOne K (.ref (He.ga K "InvalidOperation")) (.ref (He.ga K "InvalidNumber")) = some false
  m_InvalidOperation_InvalidOperation : PySem.W.exmOne K (.ref (He.ga K "InvalidOperation")) (.ref (He.ga K "InvalidOperation")) = some true
  m_InvalidOperation_Refused : PySem.W.exmOne K (.ref (He.ga K "InvalidOperation")) (.ref (He.ga K "Refused")) = some false
  m_Refused_InvalidPoly : PySem.W.exmOne K (.ref (He.ga K "Refused")) (.ref (He.ga K "InvalidPoly")) = some false
  m_Refused_InvalidNumber : PySem.W.exmOne K (.ref (He.ga K "Refused")) (.ref (He.ga K "InvalidNumber")) = some false
  m_Refused_InvalidOperation : PySem.W.exmOne K (.ref (He.ga K "Refused")) (.ref (He.ga K "InvalidOperation")) = some false
  m_Refused_Refused : PySem.W.exmOne K (.ref (He.ga K "Refused")) (.ref (He.ga K "Refused")) = some true
  f__law_word : ∃ fd, FunD K "_law_word" "_law_word" (defArgs s__law_word) (defBody s__law_word) (defScope s__law_word) [] [] (He.ga K "_law_word") fd
  g__law_word : mg "_law_word" = some (.ref (He.ga K "_law_word"))
  dis : (He.cT K ("_law_ends_right", none)).2 ≠ (He.cT K ("_law_rest_right", none)).2 ∧ (He.cT K ("_law_ends_right", none)).2 ≠ (He.cT K ("law", none)).2 ∧ (He.cT K ("_law_rest_right", none)).2 ≠ (He.cT K ("law", none)).2
def tfs : List He.Defn := [("_law_ends_right", none), ("_law_rest_right", none), ("law", none)]
def Ts (K : PySem.W.Frag) : List (Addr × Str) := [((He.cT K ("_law_ends_right", none)).2, ("_law_ends_right" : Str) ++ ".<locals>." ++ "<lambda>"), ((He.cT K ("_law_rest_right", none)).2, ("_law_rest_right" : Str) ++ ".<locals>." ++ "<lambda>"), ((He.cT K ("law", none)).2, ("law" : Str) ++ ".<locals>." ++ "<lambda>")]
theorem hu__law_ends_right {K : PySem.W.Frag} (dis : (He.cT K ("_law_ends_right", none)).2 ≠ (He.cT K ("_law_rest_right", none)).2 ∧ (He.cT K ("_law_ends_right", none)).2 ≠ (He.cT K ("law", none)).2 ∧ (He.cT K ("_law_rest_right", none)).2 ≠ (He.cT K ("law", none)).2) : ∀ p ∈ Ts K, p.1 = (He.cT K ("_law_ends_right", none)).2 → p.2 = ("_law_ends_right" : Str) ++ ".<locals>." ++ "<lambda>" := by
  intro p hp e
  simp only [Ts, List.mem_cons, List.not_mem_nil, or_false] at hp
  rcases hp with rfl | rfl | rfl
  · rfl
  · exact absurd e (by simp only at dis ⊢; first | exact dis | exact Ne.symm dis | (intro z; simp_all))
  · exact absurd e (by simp only at dis ⊢; first | exact dis | exact Ne.symm dis | (intro z; simp_all))
theorem hu__law_rest_right {K : PySem.W.Frag} (dis : (He.cT K ("_law_ends_right", none)).2 ≠ (He.cT K ("_law_rest_right", none)).2 ∧ (He.cT K ("_law_ends_right", none)).2 ≠ (He.cT K ("law", none)).2 ∧ (He.cT K ("_law_rest_right", none)).2 ≠ (He.cT K ("law", none)).2) : ∀ p ∈ Ts K, p.1 = (He.cT K ("_law_rest_right", none)).2 → p.2 = ("_law_rest_right" : Str) ++ ".<locals>." ++ "<lambda>" := by
  intro p hp e
  simp only [Ts, List.mem_cons, List.not_mem_nil, or_false] at hp
  rcases hp with rfl | rfl | rfl
  · exact absurd e (by simp only at dis ⊢; first | exact dis | exact Ne.symm dis | (intro z; simp_all))
  · rfl
  · exact absurd e (by simp only at dis ⊢; first | exact dis | exact Ne.symm dis | (intro z; simp_all))
theorem hu_law {K : PySem.W.Frag} (dis : (He.cT K ("_law_ends_right", none)).2 ≠ (He.cT K ("_law_rest_right", none)).2 ∧ (He.cT K ("_law_ends_right", none)).2 ≠ (He.cT K ("law", none)).2 ∧ (He.cT K ("_law_rest_right", none)).2 ≠ (He.cT K ("law", none)).2) : ∀ p ∈ Ts K, p.1 = (He.cT K ("law", none)).2 → p.2 = ("law" : Str) ++ ".<locals>." ++ "<lambda>" := by
  intro p hp e
  simp only [Ts, List.mem_cons, List.not_mem_nil, or_false] at hp
  rcases hp with rfl | rfl | rfl
  · exact absurd e (by simp only at dis ⊢; first | exact dis | exact Ne.symm dis | (intro z; simp_all))
  · exact absurd e (by simp only at dis ⊢; first | exact dis | exact Ne.symm dis | (intro z; simp_all))
  · rfl
theorem sc__law_word : FnScope ["call", "error"] ["call"] (defScope s__law_word) := ⟨rfl, rfl, rfl, by decide +kernel, rfl, by decide +kernel, by decide +kernel⟩
/-! ### the head: facts by names, and what the imports bring -/
def bulOk (K : PySem.W.Frag) (bl : List (Str × String)) : Bool := bl.all fun q => decide (PySem.W.nsIn K mainGlobals q.1 = some (some (.builtin q.2)))
theorem bul_ok {K : PySem.W.Frag} {h : Heap} {mg : Str → Option Value} {bl : List (Str × String)} (X : K.In h) (G : h.Ns mainGlobals mg) (c : bulOk K bl = true) (i : Nat) {q : Str × String} (hi : bl[i]? = some q := by rfl) : mg q.1 = some (.builtin q.2) :=
  PySem.W.mg_of X G (of_decide_eq_true (List.all_eq_true.mp c q (List.mem_of_getElem? hi)))
def d_is_int : He.DefD := ⟨("is_int", none), "is_int", "is_int", defArgs s_is_int, defBody s_is_int, defScope s_is_int, [], []⟩
def d_bezout : He.DefD := ⟨("bezout", none), "bezout", "bezout", defArgs s_bezout, defBody s_bezout, defScope s_bezout, [], []⟩
def d_common_multiple : He.DefD := ⟨("common_multiple", none), "common_multiple", "common_multiple", defArgs s_common_multiple, defBody s_common_multiple, defScope s_common_multiple, [], []⟩
def d_top_of : He.DefD := ⟨("top_of", none), "top_of", "top_of", defArgs s_top_of, defBody s_top_of, defScope s_top_of, [], []⟩
def d_bottom_of : He.DefD := ⟨("bottom_of", none), "bottom_of", "bottom_of", defArgs s_bottom_of, defBody s_bottom_of, defScope s_bottom_of, [], []⟩
def d_sign_of : He.DefD := ⟨("sign_of", none), "sign_of", "sign_of", defArgs s_sign_of, defBody s_sign_of, defScope s_sign_of, [], []⟩
def d_without_zeros : He.DefD := ⟨("without_zeros", none), "without_zeros", "without_zeros", defArgs s_without_zeros, defBody s_without_zeros, defScope s_without_zeros, [], []⟩
def d_degree_of : He.DefD := ⟨("degree_of", none), "degree_of", "degree_of", defArgs s_degree_of, defBody s_degree_of, defScope s_degree_of, [], []⟩
def d_root_bound : He.DefD := ⟨("root_bound", none), "root_bound", "root_bound", defArgs s_root_bound, defBody s_root_bound, defScope s_root_bound, [], []⟩
def d_is_below : He.DefD := ⟨("is_below", none), "is_below", "is_below", defArgs s_is_below, defBody s_is_below, defScope s_is_below, [], []⟩
def d_undone_modulo : He.DefD := ⟨("undone_modulo", none), "undone_modulo", "undone_modulo", defArgs s_undone_modulo, defBody s_undone_modulo, defScope s_undone_modulo, [], []⟩
def d_is_zero : He.DefD := ⟨("is_zero", none), "is_zero", "is_zero", defArgs s_is_zero, defBody s_is_zero, defScope s_is_zero, [], []⟩
def d_whole_row : He.DefD := ⟨("whole_row", none), "whole_row", "whole_row", defArgs s_whole_row, defBody s_whole_row, defScope s_whole_row, [], []⟩
def d_sign_of_difference : He.DefD := ⟨("sign_of_difference", none), "sign_of_difference", "sign_of_difference", defArgs s_sign_of_difference, defBody s_sign_of_difference, defScope s_sign_of_difference, [], []⟩
def d_sign_at : He.DefD := ⟨("sign_at", none), "sign_at", "sign_at", defArgs s_sign_at, defBody s_sign_at, defScope s_sign_at, [], []⟩
def d_number_fits : He.DefD := ⟨("number_fits", none), "number_fits", "number_fits", defArgs s_number_fits, defBody s_number_fits, defScope s_number_fits, [], []⟩
def d_quotient : He.DefD := ⟨("quotient", none), "quotient", "quotient", defArgs s_quotient, defBody s_quotient, defScope s_quotient, [], []⟩
def d_is_at_most : He.DefD := ⟨("is_at_most", none), "is_at_most", "is_at_most", defArgs s_is_at_most, defBody s_is_at_most, defScope s_is_at_most, [], []⟩
def d_opened : He.DefD := ⟨("opened", none), "opened", "opened", defArgs s_opened, defBody s_opened, defScope s_opened, [], []⟩
def d_settled : He.DefD := ⟨("settled", none), "settled", "settled", defArgs s_settled, defBody s_settled, defScope s_settled, [], []⟩
def d_divided_modulo : He.DefD := ⟨("divided_modulo", none), "divided_modulo", "divided_modulo", defArgs s_divided_modulo, defBody s_divided_modulo, defScope s_divided_modulo, [], []⟩
def d_changes_at : He.DefD := ⟨("changes_at", none), "changes_at", "changes_at", defArgs s_changes_at, defBody s_changes_at, defScope s_changes_at, [], []⟩
def d_later_of : He.DefD := ⟨("later_of", none), "later_of", "later_of", defArgs s_later_of, defBody s_later_of, defScope s_later_of, [], []⟩
def d_earlier_of : He.DefD := ⟨("earlier_of", none), "earlier_of", "earlier_of", defArgs s_earlier_of, defBody s_earlier_of, defScope s_earlier_of, [], []⟩
def d_is_stretch : He.DefD := ⟨("is_stretch", none), "is_stretch", "is_stretch", defArgs s_is_stretch, defBody s_is_stretch, defScope s_is_stretch, [], []⟩
def d_vector_fits : He.DefD := ⟨("vector_fits", none), "vector_fits", "vector_fits", defArgs s_vector_fits, defBody s_vector_fits, defScope s_vector_fits, [], []⟩
def d_closed : He.DefD := ⟨("closed", none), "closed", "closed", defArgs s_closed, defBody s_closed, defScope s_closed, [], []⟩
def d_divided_by : He.DefD := ⟨("divided_by", none), "divided_by", "divided_by", defArgs s_divided_by, defBody s_divided_by, defScope s_divided_by, [], []⟩
def d_monic : He.DefD := ⟨("monic", none), "monic", "monic", defArgs s_monic, defBody s_monic, defScope s_monic, [], []⟩
def d_slope : He.DefD := ⟨("slope", none), "slope", "slope", defArgs s_slope, defBody s_slope, defScope s_slope, [], []⟩
def d_changes_between : He.DefD := ⟨("changes_between", none), "changes_between", "changes_between", defArgs s_changes_between, defBody s_changes_between, defScope s_changes_between, [], []⟩
def d_check_end : He.DefD := ⟨("check_end", none), "check_end", "check_end", defArgs s_check_end, defBody s_check_end, defScope s_check_end, [], []⟩
def d_check_stretch : He.DefD := ⟨("check_stretch", none), "check_stretch", "check_stretch", defArgs s_check_stretch, defBody s_check_stretch, defScope s_check_stretch, [], []⟩
def d_turned_rest_of : He.DefD := ⟨("turned_rest_of", none), "turned_rest_of", "turned_rest_of", defArgs s_turned_rest_of, defBody s_turned_rest_of, defScope s_turned_rest_of, [], []⟩
def d_with_ends : He.DefD := ⟨("with_ends", none), "with_ends", "with_ends", defArgs s_with_ends, defBody s_with_ends, defScope s_with_ends, [], []⟩
def d_middle : He.DefD := ⟨("middle", none), "middle", "middle", defArgs s_middle, defBody s_middle, defScope s_middle, [], []⟩
def d_poly_fits : He.DefD := ⟨("poly_fits", none), "poly_fits", "poly_fits", defArgs s_poly_fits, defBody s_poly_fits, defScope s_poly_fits, [], []⟩
def d_over_poly : He.DefD := ⟨("over_poly", none), "over_poly", "over_poly", defArgs s_over_poly, defBody s_over_poly, defScope s_over_poly, [], []⟩
def d_common_part : He.DefD := ⟨("common_part", none), "common_part", "common_part", defArgs s_common_part, defBody s_common_part, defScope s_common_part, [], []⟩
def d_closed_all : He.DefD := ⟨("closed_all", none), "closed_all", "closed_all", defArgs s_closed_all, defBody s_closed_all, defScope s_closed_all, [], []⟩
def d_roots_between : He.DefD := ⟨("roots_between", none), "roots_between", "roots_between", defArgs s_roots_between, defBody s_roots_between, defScope s_roots_between, [], []⟩
def d_check_poly : He.DefD := ⟨("check_poly", none), "check_poly", "check_poly", defArgs s_check_poly, defBody s_check_poly, defScope s_check_poly, [], []⟩
def d_chain_of : He.DefD := ⟨("chain_of", none), "chain_of", "chain_of", defArgs s_chain_of, defBody s_chain_of, defScope s_chain_of, [], []⟩
def d_chain_paper : He.DefD := ⟨("chain_paper", none), "chain_paper", "chain_paper", defArgs s_chain_paper, defBody s_chain_paper, defScope s_chain_paper, [], []⟩
def d_check_alone : He.DefD := ⟨("check_alone", none), "check_alone", "check_alone", defArgs s_check_alone, defBody s_check_alone, defScope s_check_alone, [], []⟩
def d_half_with_root : He.DefD := ⟨("half_with_root", none), "half_with_root", "half_with_root", defArgs s_half_with_root, defBody s_half_with_root, defScope s_half_with_root, [], []⟩
def d_inner_of : He.DefD := ⟨("inner_of", none), "inner_of", "inner_of", defArgs s_inner_of, defBody s_inner_of, defScope s_inner_of, [], []⟩
def d_common_paper : He.DefD := ⟨("common_paper", none), "common_paper", "common_paper", defArgs s_common_paper, defBody s_common_paper, defScope s_common_paper, [], []⟩
def d_apart : He.DefD := ⟨("apart", none), "apart", "apart", defArgs s_apart, defBody s_apart, defScope s_apart, [], []⟩
def d_order_paper : He.DefD := ⟨("order_paper", none), "order_paper", "order_paper", defArgs s_order_paper, defBody s_order_paper, defScope s_order_paper, [], []⟩
def d_inner_other_than_0 : He.DefD := ⟨("inner_other_than_0", none), "inner_other_than_0", "inner_other_than_0", defArgs s_inner_other_than_0, defBody s_inner_other_than_0, defScope s_inner_other_than_0, [], []⟩
def d_asked_chain : He.DefD := ⟨("asked_chain", none), "asked_chain", "asked_chain", defArgs s_asked_chain, defBody s_asked_chain, defScope s_asked_chain, [], []⟩
def d_sign_answer : He.DefD := ⟨("sign_answer", none), "sign_answer", "sign_answer", defArgs s_sign_answer, defBody s_sign_answer, defScope s_sign_answer, [], []⟩
def d_root_order_answer : He.DefD := ⟨("root_order_answer", none), "root_order_answer", "root_order_answer", defArgs s_root_order_answer, defBody s_root_order_answer, defScope s_root_order_answer, [], []⟩
def d_root_stretches : He.DefD := ⟨("root_stretches", none), "root_stretches", "root_stretches", defArgs s_root_stretches, defBody s_root_stretches, defScope s_root_stretches, [], []⟩
def d_roots_answer : He.DefD := ⟨("roots_answer", none), "roots_answer", "roots_answer", defArgs s_roots_answer, defBody s_roots_answer, defScope s_roots_answer, [], []⟩
def d_alone_answer : He.DefD := ⟨("alone_answer", none), "alone_answer", "alone_answer", defArgs s_alone_answer, defBody s_alone_answer, defScope s_alone_answer, [], []⟩
def d__law_dice : He.DefD := ⟨("_law_dice", none), "_law_dice", "_law_dice", defArgs s__law_dice, defBody s__law_dice, defScope s__law_dice, [], []⟩
def d__law_roll : He.DefD := ⟨("_law_roll", none), "_law_roll", "_law_roll", defArgs s__law_roll, defBody s__law_roll, defScope s__law_roll, [], []⟩
def d__law_gcd : He.DefD := ⟨("_law_gcd", none), "_law_gcd", "_law_gcd", defArgs s__law_gcd, defBody s__law_gcd, defScope s__law_gcd, [], []⟩
def d__law_pick : He.DefD := ⟨("_law_pick", none), "_law_pick", "_law_pick", defArgs s__law_pick, defBody s__law_pick, defScope s__law_pick, [], []⟩
def d__law_fraction : He.DefD := ⟨("_law_fraction", none), "_law_fraction", "_law_fraction", defArgs s__law_fraction, defBody s__law_fraction, defScope s__law_fraction, [], []⟩
def d__law_plus : He.DefD := ⟨("_law_plus", none), "_law_plus", "_law_plus", defArgs s__law_plus, defBody s__law_plus, defScope s__law_plus, [], []⟩
def d__law_ends_right : He.DefD := ⟨("_law_ends_right", none), "_law_ends_right", "_law_ends_right", defArgs s__law_ends_right, defBody s__law_ends_right, defScope s__law_ends_right, [], []⟩
def d__law_rest_right : He.DefD := ⟨("_law_rest_right", none), "_law_rest_right", "_law_rest_right", defArgs s__law_rest_right, defBody s__law_rest_right, defScope s__law_rest_right, [], []⟩
def d_law : He.DefD := ⟨("law", none), "law", "law", defArgs s_law, defBody s_law, defScope s_law, [], []⟩
def bul : List (Str × String) := [("gcd", "math.gcd")]

def d__law_word : He.DefD := ⟨("_law_word", none), "_law_word", "_law_word", defArgs s__law_word, defBody s__law_word, defScope s__law_word, [], []⟩
abbrev s_InvalidNumber_init : Stmt := (clsBody (top 5)).getD 0 (.Pass ⟨0, 0, 0, 0⟩)
def d_InvalidNumber_init : He.DefD := ⟨("InvalidNumber", some "__init__"), "__init__", "InvalidNumber.__init__", defArgs s_InvalidNumber_init, defBody s_InvalidNumber_init, defScope s_InvalidNumber_init, [], []⟩
abbrev s_Refused_init : Stmt := (clsBody (top 6)).getD 0 (.Pass ⟨0, 0, 0, 0⟩)
def d_Refused_init : He.DefD := ⟨("Refused", some "__init__"), "__init__", "Refused.__init__", defArgs s_Refused_init, defBody s_Refused_init, defScope s_Refused_init, [], []⟩
def fnl : List He.DefD := [d_is_int, d_bezout, d_common_multiple, d_top_of, d_bottom_of, d_sign_of, d_without_zeros, d_degree_of, d_root_bound, d_is_below, d_undone_modulo, d_is_zero, d_whole_row, d_sign_of_difference, d_sign_at, d_number_fits, d_quotient, d_is_at_most, d_opened, d_settled, d_divided_modulo, d_changes_at, d_later_of, d_earlier_of, d_is_stretch, d_vector_fits, d_closed, d_divided_by, d_monic, d_slope, d_changes_between, d_check_end, d_check_stretch, d_turned_rest_of, d_with_ends, d_middle, d_poly_fits, d_over_poly, d_common_part, d_closed_all, d_roots_between, d_check_poly, d_chain_of, d_chain_paper, d_check_alone, d_half_with_root, d_inner_of, d_common_paper, d_apart, d_order_paper, d_inner_other_than_0, d_asked_chain, d_sign_answer, d_root_order_answer, d_root_stretches, d_roots_answer, d_alone_answer, d__law_dice, d__law_roll, d__law_gcd, d__law_pick, d__law_fraction, d__law_plus, d__law_ends_right, d__law_rest_right, d_law, d__law_word, d_InvalidNumber_init, d_Refused_init]
def fal : List He.Fa := [.glo "is_int", .glo "bezout", .glo "common_multiple", .glo "top_of", .glo "bottom_of", .glo "sign_of", .glo "without_zeros", .glo "degree_of", .glo "root_bound", .glo "is_below", .glo "undone_modulo", .glo "is_zero", .glo "whole_row", .glo "sign_of_difference", .glo "sign_at", .glo "number_fits", .glo "quotient", .glo "is_at_most", .glo "opened", .glo "settled", .glo "divided_modulo", .glo "changes_at", .glo "later_of", .glo "earlier_of", .glo "is_stretch", .glo "vector_fits", .glo "closed", .glo "divided_by", .glo "monic", .glo "slope", .glo "changes_between", .glo "check_end", .glo "check_stretch", .glo "turned_rest_of", .glo "with_ends", .glo "middle", .glo "poly_fits", .glo "over_poly", .glo "common_part", .glo "closed_all", .glo "roots_between", .glo "check_poly", .glo "chain_of", .glo "chain_paper", .glo "check_alone", .glo "half_with_root", .glo "inner_of", .glo "common_paper", .glo "apart", .glo "order_paper", .glo "inner_other_than_0", .glo "asked_chain", .glo "sign_answer", .glo "root_order_answer", .glo "root_stretches", .glo "roots_answer", .glo "alone_answer", .glo "_law_dice", .glo "_law_roll", .glo "_law_gcd", .glo "_law_pick", .glo "_law_fraction", .glo "_law_plus", .glo "_law_ends_right", .glo "_law_rest_right", .glo "law", .glo "_law_word", .glo "InvalidPoly", .glo "InvalidNumber", .glo "InvalidOperation", .glo "Refused", .int "SIXTY_DIGITS" 1000000000000000000000000000000000000000000000000000000000000, .glo "NOTHING", .int "MAX_DEGREE" 12, .glo "ONE", .free "abs", .free "all", .free "bool", .free "enumerate", .free "int", .free "isinstance", .free "len", .free "list", .free "max", .free "min", .free "range", .free "repr", .free "reversed", .free "tuple", .exc "InvalidPoly", .exc "InvalidOperation", .exm "InvalidPoly" "InvalidPoly" true, .exm "InvalidPoly" "InvalidNumber" false, .exm "InvalidPoly" "InvalidOperation" false, .exm "InvalidPoly" "Refused" false, .exm "InvalidNumber" "InvalidPoly" false, .exm "InvalidNumber" "InvalidNumber" true, .exm "InvalidNumber" "InvalidOperation" false, .exm "InvalidNumber" "Refused" false, .exm "InvalidOperation" "InvalidPoly" false, .exm "InvalidOperation" "InvalidNumber" false, .exm "InvalidOperation" "InvalidOperation" true, .exm "InvalidOperation" "Refused" false, .exm "Refused" "InvalidPoly" false, .exm "Refused" "InvalidNumber" false, .exm "Refused" "InvalidOperation" false, .exm "Refused" "Refused" true]
def exX (K : PySem.W.Frag) : Bool := bulOk K bul && exiB K "InvalidNumber" "given" bm_IndexError "IndexError.__new__" && exiB K "Refused" "reason" bm_ArithmeticError "ArithmeticError.__new__" && ctOk K 9 (.tuple [.tuple [], .int (1)]) (.ref (He.ga K "NOTHING")) && ctOk K 9 (.tuple [.int (1), .int (1)]) (.ref (He.ga K "ONE")) && decide ((He.cT K ("_law_ends_right", none)).2 ≠ (He.cT K ("_law_rest_right", none)).2 ∧ (He.cT K ("_law_ends_right", none)).2 ≠ (He.cT K ("law", none)).2 ∧ (He.cT K ("_law_rest_right", none)).2 ≠ (He.cT K ("law", none)).2)
def loose0 : List PySem.Str := ["PaperError", "InvalidPoly", "InvalidOperation", "InvalidNumber", "Refused", "is_int", "is_below", "number_fits", "vector_fits", "bezout", "undone_modulo", "common_multiple", "quotient", "top_of", "bottom_of", "is_zero", "whole_row", "sign_of", "sign_of_difference", "is_at_most", "SIXTY_DIGITS", "NOTHING", "poly_fits", "opened", "closed", "without_zeros", "settled", "degree_of", "divided_modulo", "divided_by"]
def loose1 : List PySem.Str := ["over_poly", "monic", "slope", "common_part", "MAX_DEGREE", "check_poly", "inner_of", "closed_all", "sign_at", "changes_at", "changes_between", "later_of", "earlier_of", "is_stretch", "ONE", "inner_other_than_0", "check_end", "check_stretch", "turned_rest_of", "chain_of", "chain_paper", "roots_between", "asked_chain", "roots_answer", "check_alone", "alone_answer", "root_bound", "with_ends", "middle", "half_with_root"]
def loose2 : List PySem.Str := ["common_paper", "sign_answer", "apart", "order_paper", "root_order_answer", "root_stretches", "_law_dice", "_law_roll", "_law_pick", "_law_gcd", "_law_fraction", "_law_plus", "_law_word", "_law_ends_right", "_law_rest_right"]
def looseL : List PySem.Str := loose0 ++ loose1 ++ loose2
abbrev RR : PySem.W.OpenRow := PySem.W.OpenLaw.row PySem.Challenge.rw_zeroorone_k37_errors_of_real_roots
/-! ### the head's facts over fewer addresses, each told once -/
open PySem PySem.W
def frL {α : Type} : List Addr → (List Addr → α) → α
  | [], k => k []
  | a :: r, k => HandSHeadRun.frNat a fun b => frL r fun t => k (b :: t)
theorem frL_eq {α : Type} : ∀ (as : List Addr) (k : List Addr → α), frL as k = k as
  | [], _ => rfl
  | a :: r, k => by rw [frL, HandSHeadRun.frNat_eq, frL_eq r]
def outZ (g : Addr → Option Obj) (as : List Addr) : List Addr := as.flatMap fun a => (g a).elim [] He.refsD
def nsZ (g : Addr → Option Obj) (as : List Addr) : List Addr := as.flatMap fun a => match g a with
  | some ⟨_, _, .cls cd, _⟩ => [cd.ns]
  | _ => []
def asZ (g : Addr → Option Obj) : List Addr :=
  frL (outZ g [mainGlobals]) fun one => frL (outZ g one) fun two => frL (outZ g (nsZ g one)) fun three => frL (outZ g three) fun four => mainGlobals :: (one ++ (two ++ (three ++ four)))
def obsZ (fa : List He.Fa) (fn : List He.DefD) (tf : List He.Defn) (ex : Frag → Bool) (g : Addr → Option Obj) : He.AlX :=
  frL (asZ g) fun as => (He.obsT fa fn [] (He.frT g as), ex (He.frT g as) && He.tabsB g tf (He.frT g as))
theorem saysZ {fa : List He.Fa} {fn : List He.DefD} {tf : List He.Defn} {ex : Frag → Bool} {w : World} {h : Heap} (e : obsZ fa fn tf ex h.get? = He.valX fn [] w) :
    He.SaysX fa fn [] tf ex w h (He.frT h.get? (asZ h.get?)) := by
  unfold obsZ at e
  rw [frL_eq] at e
  generalize hK : He.frT h.get? (asZ h.get?) = K at e ⊢
  have one := congrArg Prod.fst e
  have two : (ex K && He.tabsB h.get? tf K) = true := congrArg Prod.snd e
  rw [Bool.and_eq_true] at two
  have tab : ∀ q ∈ tf, codeHdIn K (He.cT K q).1 (He.cT K q).2 = true ∧ ∃ ob, h.get? (He.cT K q).2 = some ob ∧ He.emptyTab ob = true := by
    intro q hq
    have c := List.all_eq_true.mp two.2 q hq
    rw [Bool.and_eq_true] at c
    cases hg : h.get? (He.cT K q).2 with
    | none => rw [hg] at c; exact absurd c.2 (by decide)
    | some ob => rw [hg] at c; exact ⟨c.1, ob, rfl, c.2⟩
  constructor
  · exact one
  · exact two.1
  · exact fun q hq => (tab q hq).1
  · intro q hq
    obtain ⟨_, ob, hg, hb⟩ := tab q hq
    subst hK
    exact He.frT_none hg hb
  · intro q hq
    obtain ⟨_, ob, hg, hb⟩ := tab q hq
    rw [hg, He.emptyTab_eq hb]
def hookZ (fa : List He.Fa) (fn : List He.DefD) (tf : List He.Defn) (ex : Frag → Bool) : Hook where
  α := He.AlX
  obs := fun st => obsZ fa fn tf ex st.heap.get?
  val := fun w => He.valX fn [] w
  says := fun w h => ∃ K : Frag, K.In h ∧ He.SaysX fa fn [] tf ex w h K
  of := fun _ _ e => ⟨_, He.frT_in, saysZ e⟩
  keeps := fun _ _ _ ⟨K, hi, c⟩ kp => ⟨K, Frag.In.keeps hi kp, { t := c.t, more := c.more, hd := c.hd, out := c.out, empty := fun q hq => kp _ _ (c.empty q hq) }⟩
theorem obsZ_at {fa : List He.Fa} {fn : List He.DefD} {tf : List He.Defn} {ex : Frag → Bool} {g : Addr → Option Obj} {st : Shared} (h : ∀ a, g a = st.heap.get? a) : obsZ fa fn tf ex g = (hookZ fa fn tf ex).obs st := by
  obtain rfl : g = st.heap.get? := funext h
  rfl
abbrev hk : PySem.W.Hook := hookZ fal fnl tfs exX
def obz (s : PySem.W.SharedT) : He.AlX := obsZ fal fnl tfs exX (HandSHeadRun.getT s)
theorem obz_eq (s : PySem.W.SharedT) : obz s = hk.obs s.abs := obsZ_at (HandSHeadRun.getT_eq s)
noncomputable def ends (w : World) : Option (Shared × PySem.W.SharedT) := HandSHeadRun.wholeF (fun p => HandSHeadRun.stepQ (HandSHeadRun.denQ HandSHeadRun.tabQ) p w) HandSHeadRun.fenceQ 4000 RR.prog
theorem run1 (w : World) : (ends w).map (fun x => (HandSHeadRun.looksF RR.prog x.1.heap x.2.abs, HandSHeadRun.seenQ (PySem.W.view RR.prog [0, 84]) looseL (importedModules RR.prog.main.body) (fun s => xlAt (PySem.W.view RR.prog [0, 84]) [] s && recOk RR.toRowW.records s) x.2.abs)) = some (true, openGood (PySem.W.view RR.prog [0, 84]) looseL) := by kernel_rfl
theorem run2 (w : World) : (ends w).map (fun x => obz x.2) = some (hk.val w) := by kernel_rfl
theorem run (w : World) : HandSHeadRun.RunEqI RR (PySem.W.view RR.prog [0, 84]) hk obz 4000 looseL w := by
  unfold HandSHeadRun.RunEqI
  have a := run1 w
  have b := run2 w
  show (ends w).map _ = _
  cases e : ends w with
  | none => rw [e] at a; cases a
  | some x =>
    rw [e] at a b
    have a := Option.some.inj a
    have b := Option.some.inj b
    have a1 := congrArg Prod.fst a
    have a2 := congrArg Prod.snd a
    exact congrArg some (Prod.ext a1 (Prod.ext a2 b))
/-- all that was tracked but at d is as it was -/
def Keep (d : Addr) (H H' : Hp) : Prop := ∀ b o, b ≠ d → H b = some o → H' b = some o
theorem mulS {i j : Int} (h : -(2 ^ 64) < i ∧ i < 2 ^ 64) : CMul i j ∨ CMulW i j := .inl (.inl h)
theorem mulR {i j : Int} (h : -(2 ^ 64) < j ∧ j < 2 ^ 64) : CMul i j ∨ CMulW i j := .inl (.inr h)
theorem divS {i j : Int} (h : 0 < j) (h2 : j < 2 ^ 64) : CDivW i j := wide_div (b := 64) h (by omega) (by decide) (by decide)
theorem divZ {i j : Int} (h : j ≠ 0) (h2 : j.natAbs < 2 ^ 250) : CDivZ i j := ⟨h, Nat.lt_of_lt_of_le (PySem.Flt.log2_lt_of (by decide) h2) (by decide)⟩
theorem emod_small {a m : Int} (h0 : 0 ≤ a) (h1 : a < m) : a % m = a := Int.emod_eq_of_lt h0 h1
theorem same_new {H H' : Hp} {p : Addr} {o : HO} (s : Same H H') (hn : H' p = none) : Same H (upd H' p o) := fun b u h => by
  rw [upd_ne (ne_of_none (s b u h) hn)]; exact s b u h
theorem same_mut {H H' : Hp} {p : Addr} {o : HO} (s : Same H H') (hn : H p = none) : Same H (upd H' p o) := fun b u h => by
  rw [upd_ne (ne_of_none h hn)]; exact s b u h
theorem same_upd {H : Hp} {p : Addr} {o : HO} (hn : H p = none) : Same H (upd H p o) := same_new (Same.refl H) hn
theorem sqT_of {K : PySem.W.Frag} {H : Hp} {a : Addr} {xs : List V} (h : H a = some (.tup xs)) : SqT K H a xs := .inl (.inl h)
theorem sqL_of {K : PySem.W.Frag} {H : Hp} {a : Addr} {xs : List V} (h : H a = some (.lst xs)) : SqL K H a xs := .inl (.inl h)
/-- d is the least divisor of n from 2 on -/
def Least (d n : Int) : Prop := 2 ≤ d ∧ d ∣ n ∧ ∀ k, 2 ≤ k → k < d → ¬ k ∣ n
def PrimeI (n : Int) : Prop := 2 ≤ n ∧ ∀ k, 2 ≤ k → k < n → ¬ k ∣ n
/-! values of any kind -/
def isI : V → Bool
  | .int _ => true
  | _ => false
def isB : V → Bool
  | .bl _ => true
  | _ => false
def Kn (H : Hp) : V → Prop
  | .non => True
  | .bl _ => True
  | .int _ => True
  | .str _ => True
  | .ref a => (∃ xs, H a = some (.lst xs)) ∨ (∃ xs, H a = some (.tup xs)) ∨ ∃ kvs, H a = some (.dK kvs)
  | _ => False
theorem Kn.same {H H' : Hp} {v : V} (k : Kn H v) (s : Same H H') : Kn H' v := by
  cases v with
  | ref a =>
    rcases k with ⟨xs, h⟩ | ⟨xs, h⟩ | ⟨xs, h⟩
    · exact .inl ⟨xs, s _ _ h⟩
    · exact .inr (.inl ⟨xs, s _ _ h⟩)
    · exact .inr (.inr ⟨xs, s _ _ h⟩)
  | _ => exact k
theorem isi_kn_int {K : PySem.W.Frag} {v : V} {H : Hp} {Q : VK} (k : Kn H v) (q : Q (.bl (isI v || isB v)) H) : rIsi K [v, .ty "int"] H Q := by
  cases v with
  | non => exact ⟨_, _, _, _, _, rfl, .ty "int", .base .non, kit_ty (show kitB "NoneType" "int" = some false by decide +kernel), q⟩
  | bl b => exact ⟨_, _, _, _, _, rfl, .ty "int", .base (.bl b), kit_ty (show kitB "bool" "int" = some true by decide +kernel), q⟩
  | int i => exact ⟨_, _, _, _, _, rfl, .ty "int", .base (.int i), kit_ty (show kitB "int" "int" = some true by decide +kernel), q⟩
  | str x => exact ⟨_, _, _, _, _, rfl, .ty "int", .base (.str x), kit_ty (show kitB "str" "int" = some false by decide +kernel), q⟩
  | ref a =>
    rcases k with ⟨xs, h⟩ | ⟨xs, h⟩ | ⟨xs, h⟩
    · exact ⟨_, _, _, _, _, rfl, .ty "int", .base (.lst h), kit_ty (show kitB "list" "int" = some false by decide +kernel), q⟩
    · exact ⟨_, _, _, _, _, rfl, .ty "int", .base (.tup h), kit_ty (show kitB "tuple" "int" = some false by decide +kernel), q⟩
    · exact ⟨_, _, _, _, _, rfl, .ty "int", .base (.dK h), kit_ty (show kitB "dict" "int" = some false by decide +kernel), q⟩
  | byt _ => exact k.elim
  | flt _ => exact k.elim
  | ty _ => exact k.elim
theorem isi_kn_bool {K : PySem.W.Frag} {v : V} {H : Hp} {Q : VK} (k : Kn H v) (q : Q (.bl (isB v)) H) : rIsi K [v, .ty "bool"] H Q := by
  cases v with
  | non => exact ⟨_, _, _, _, _, rfl, .ty "bool", .base .non, kit_ty (show kitB "NoneType" "bool" = some false by decide +kernel), q⟩
  | bl b => exact ⟨_, _, _, _, _, rfl, .ty "bool", .base (.bl b), kit_ty (show kitB "bool" "bool" = some true by decide +kernel), q⟩
  | int i => exact ⟨_, _, _, _, _, rfl, .ty "bool", .base (.int i), kit_ty (show kitB "int" "bool" = some false by decide +kernel), q⟩
  | str x => exact ⟨_, _, _, _, _, rfl, .ty "bool", .base (.str x), kit_ty (show kitB "str" "bool" = some false by decide +kernel), q⟩
  | ref a =>
    rcases k with ⟨xs, h⟩ | ⟨xs, h⟩ | ⟨xs, h⟩
    · exact ⟨_, _, _, _, _, rfl, .ty "bool", .base (.lst h), kit_ty (show kitB "list" "bool" = some false by decide +kernel), q⟩
    · exact ⟨_, _, _, _, _, rfl, .ty "bool", .base (.tup h), kit_ty (show kitB "tuple" "bool" = some false by decide +kernel), q⟩
    · exact ⟨_, _, _, _, _, rfl, .ty "bool", .base (.dK h), kit_ty (show kitB "dict" "bool" = some false by decide +kernel), q⟩
  | byt _ => exact k.elim
  | flt _ => exact k.elim
  | ty _ => exact k.elim
/-- the value is a tuple of these -/
def TupV (H : Hp) (v : V) (xs : List V) : Prop := ∃ a, v = .ref a ∧ H a = some (.tup xs)
theorem TupV.same {H H' : Hp} {v : V} {xs : List V} (k : TupV H v xs) (s : Same H H') : TupV H' v xs := by
  obtain ⟨a, e, h⟩ := k
  exact ⟨a, e, s _ _ h⟩
theorem isi_kn_tuple {K : PySem.W.Frag} {v : V} {H : Hp} {Q : VK} (k : Kn H v) (q1 : ∀ xs, TupV H v xs → Q (.bl true) H) (q2 : (∀ xs, ¬ TupV H v xs) → Q (.bl false) H) : rIsi K [v, .ty "tuple"] H Q := by
  cases v with
  | non => exact ⟨_, _, _, _, _, rfl, .ty "tuple", .base .non, kit_ty (show kitB "NoneType" "tuple" = some false by decide +kernel), q2 fun _ ⟨_, e, _⟩ => by cases e⟩
  | bl b => exact ⟨_, _, _, _, _, rfl, .ty "tuple", .base (.bl b), kit_ty (show kitB "bool" "tuple" = some false by decide +kernel), q2 fun _ ⟨_, e, _⟩ => by cases e⟩
  | int i => exact ⟨_, _, _, _, _, rfl, .ty "tuple", .base (.int i), kit_ty (show kitB "int" "tuple" = some false by decide +kernel), q2 fun _ ⟨_, e, _⟩ => by cases e⟩
  | str x => exact ⟨_, _, _, _, _, rfl, .ty "tuple", .base (.str x), kit_ty (show kitB "str" "tuple" = some false by decide +kernel), q2 fun _ ⟨_, e, _⟩ => by cases e⟩
  | ref a =>
    rcases k with ⟨xs, h⟩ | ⟨xs, h⟩ | ⟨xs, h⟩
    · exact ⟨_, _, _, _, _, rfl, .ty "tuple", .base (.lst h), kit_ty (show kitB "list" "tuple" = some false by decide +kernel), q2 fun _ ⟨_, e, h2⟩ => by cases e; rw [h] at h2; cases h2⟩
    · exact ⟨_, _, _, _, _, rfl, .ty "tuple", .base (.tup h), kit_ty (show kitB "tuple" "tuple" = some true by decide +kernel), q1 xs ⟨a, rfl, h⟩⟩
    · exact ⟨_, _, _, _, _, rfl, .ty "tuple", .base (.dK h), kit_ty (show kitB "dict" "tuple" = some false by decide +kernel), q2 fun _ ⟨_, e, h2⟩ => by cases e; rw [h] at h2; cases h2⟩
  | byt _ => exact k.elim
  | flt _ => exact k.elim
  | ty _ => exact k.elim
/-- .. and where it is a tuple, its members are of known kinds too -/
def Kn2 (H : Hp) (v : V) : Prop := Kn H v ∧ ∀ xs, TupV H v xs → ∀ x ∈ xs, Kn H x
/-- grounds, numbers -/
def GroundV (v : V) : Prop := ∃ n, v = .int n ∧ 0 ≤ n ∧ n ≤ 9999 ∧ (n = 0 ∨ PrimeI n)
def belowB (v : V) (l : Int) : Bool := match v with
  | .int i => decide (-l < i ∧ i < l)
  | _ => false
def NumV (H : Hp) (g : Int) (v : V) (l : Int) : Prop :=
  (g ≠ 0 ∧ ∃ n, v = .int n ∧ 0 ≤ n ∧ n < g) ∨ (g = 0 ∧ ∃ t b : Int, TupV H v [.int t, .int b] ∧ (-l < t ∧ t < l) ∧ (-l < b ∧ b < l) ∧ 1 ≤ b ∧ Nat.gcd t.natAbs b.natAbs = 1)
theorem belowB_int {v : V} {l : Int} (h : belowB v l = true) : ∃ i, v = .int i ∧ -l < i ∧ i < l := by
  cases v <;> simp only [belowB, Bool.false_eq_true, decide_eq_true_eq] at h
  exact ⟨_, rfl, h⟩
theorem least_two {n : Int} (h : n % 2 = 0) : Least 2 n := ⟨by omega, by omega, fun k h1 h2 => by omega⟩
theorem least_self {n d : Int} (hn : 2 ≤ n) (h : ∀ k, 2 ≤ k → k < d → ¬ k ∣ n) (hd : n < d * d) (h0 : 2 ≤ d) : Least n n := by
  refine ⟨hn, Int.dvd_refl n, fun k h1 h2 h3 => ?_⟩
  obtain ⟨q, rfl⟩ := h3
  have hq : 2 ≤ q := by
    by_cases hq0 : q ≤ 0
    · have := Int.mul_le_mul_of_nonneg_left hq0 (show 0 ≤ k by omega)
      omega
    · by_cases hq1 : q = 1
      · subst hq1; omega
      · omega
  by_cases hk : k < d
  · exact h k h1 hk (Int.dvd_mul_right k q)
  · by_cases hqd : q < d
    · exact h q hq hqd (Int.dvd_mul_left k q)
    · have := Int.mul_le_mul (show d ≤ k by omega) (show d ≤ q by omega) (by omega) (by omega)
      omega
theorem in_twothree {n : Int} : inV (.int n) [.int 2, .int 3] = decide (n = 2 ∨ n = 3) := by
  rw [Bool.eq_iff_iff, decide_eq_true_eq]
  simp [inV, eqV]
  omega
theorem prime_two : PrimeI 2 := ⟨by decide, fun k h1 h2 => by omega⟩
theorem prime_three : PrimeI 3 := ⟨by decide, fun k h1 h2 => by
  obtain rfl : k = 2 := by omega
  decide⟩
def Sz (n : Nat) (x : Int) : Prop := x.natAbs < 2 ^ n
theorem mulW {i j : Int} {a b : Nat} (h1 : i.natAbs < 2 ^ a) (h2 : j.natAbs < 2 ^ b) (h3 : 0 < a) (h4 : 0 < b) (h5 : a + b ≤ 1000000) : CMul i j ∨ CMulW i j := .inr (wide_mul h1 h2 h3 h4 h5)
theorem sz_mul {a b : Nat} {x y : Int} (h : Sz a x) (h2 : Sz b y) : Sz (a + b) (x * y) := by
  show (x * y).natAbs < 2 ^ (a + b)
  rw [Int.natAbs_mul, Nat.pow_add]
  exact Nat.mul_lt_mul'' h h2
theorem szm {x y : Int} (h : Sz 3000 x) (h2 : Sz 3000 y) : CMul x y ∨ CMulW x y := mulW h h2 (by decide) (by decide) (by decide)
theorem sz_add {n : Nat} {x y : Int} (h : Sz n x) (h2 : Sz n y) : Sz (n + 1) (x + y) := by
  have h3 : (2 : Nat) ^ (n + 1) = 2 ^ n + 2 ^ n := by rw [Nat.pow_succ]; omega
  show (x + y).natAbs < 2 ^ (n + 1)
  have h1 : x.natAbs < 2 ^ n := h
  have h2 : y.natAbs < 2 ^ n := h2
  rw [h3]
  omega
theorem sz_mono {n m : Nat} {x : Int} (h : Sz n x) (hm : n ≤ m) : Sz m x := Nat.lt_of_lt_of_le h (Nat.pow_le_pow_right (by decide) hm)
theorem emod_emod' (a m : Int) : a % m % m = a % m := Int.emod_emod_of_dvd a (Int.dvd_refl m)
def All2 {α β : Type} (R : α → β → Prop) (xs : List α) (qs : List β) : Prop := xs.length = qs.length ∧ ∀ (i : Nat) (v : α) (q : β), xs[i]? = some v → qs[i]? = some q → R v q
theorem All2.get {α β : Type} {R : α → β → Prop} {xs : List α} {qs : List β} (h : All2 R xs qs) {i : Nat} {v : α} (hv : xs[i]? = some v) : ∃ q, qs[i]? = some q ∧ R v q := by
  have hi := (List.getElem?_eq_some_iff.mp hv).1
  have hj : i < qs.length := h.1 ▸ hi
  exact ⟨qs[i], List.getElem?_eq_getElem hj, h.2 i v _ hv (List.getElem?_eq_getElem hj)⟩
theorem All2.imp {α β : Type} {R S : α → β → Prop} {xs : List α} {qs : List β} (h : All2 R xs qs) (f : ∀ v q, R v q → S v q) : All2 S xs qs :=
  ⟨h.1, fun i v q a b => f v q (h.2 i v q a b)⟩
theorem outL_get {α : Type} (l : List α) (f : α → V) {n : Nat} (hn : n = l.length) : outL (fun i => (l[i]?).map f) n = l.map f := by
  subst hn
  unfold outL
  apply List.ext_getElem?
  intro i
  have h : ∀ k, k ≤ l.length → (List.range k).filterMap (fun i => (l[i]?).map f) = (l.take k).map f := by
    intro k
    induction k with
    | zero => intro _; simp
    | succ k ih =>
      intro hk
      rw [List.range_succ, List.filterMap_append, ih (by omega), List.take_succ, List.map_append]
      simp [List.getElem?_eq_getElem (show k < l.length by omega)]
  rw [h _ (Nat.le_refl _), List.take_length]
/-- a comprehension over zip of two lists of one length -/
theorem comp_ZL {K : PySem.W.Frag} {a b : Addr} {xs ys : List V} {g : TG} {tt : TT} {te : TE} {vs : List Nat} {σ : St} {H1 : Hp} {Q : VK} (hl : xs.length = ys.length) (hA : SqL K H1 a xs) (hB : SqL K H1 b ys) (outs : Nat → Option V) (hn : xs.length < 2 ^ 22)
    (turn : ∀ i x y T H', xs[i]? = some x → ys[i]? = some y → Same H1 H' → H' T = none → ∀ Qo : Option V → Hp → Prop, (∀ H2, Same H' H2 → Qo (outs i) H2) → g (.ref T) (wipe σ vs) (upd H' T (.tup [x, y])) fun σ2 H2 => wipe σ2 vs = wipe σ vs ∧ tt σ2 H2 fun b H3 => if b = true then te σ2 H3 fun y H4 => Qo (some y) H4 else Qo none H3)
    (fin : ∀ D H', Same H1 H' → H' D = some (.lst (outL outs xs.length)) → Q (.ref D) H') : LcW (Itz K a b) H1 g tt te vs σ Q := fun D hD => by
  refine ⟨fun i m H => m = xs.length - i ∧ i ≤ xs.length ∧ Same H1 H ∧ H D = some (.lst (outL outs i)), ⟨xs.length, by simp, Nat.zero_le _, fun b u h => by rw [upd_ne (ne_of_none h hD)]; exact h, upd_same⟩, ?_⟩
  rintro i m H ⟨rfl, hi, s1, hL⟩
  by_cases hlt : i < xs.length
  · have jlt : i < ys.length := by omega
    refine .inr ⟨⟨xs, ys, _, _, s1.seq hA, s1.seq hB, List.getElem?_eq_getElem hlt, List.getElem?_eq_getElem jlt⟩, fun H => Same H1 H ∧ H D = some (.lst (outL outs (i + 1))), fun H' p' => ⟨xs.length - (i + 1), by omega, rfl, hlt, p'⟩, fun v H' y => ?_⟩
    obtain ⟨T, u, v, rfl, hT, rfl, f1, f2⟩ := y
    exact turn i u v T H (f1 xs (s1.seq hA)) (f2 ys (s1.seq hB)) s1 hT (OutOf D fun H' => Same H1 H' ∧ H' D = some (.lst (outL outs (i + 1)))) fun H2 s => out_ok hD outs hlt hn ⟨s1, hL⟩ s
  · obtain rfl : i = xs.length := by omega
    exact .inl ⟨⟨xs, ys, s1.seq hA, s1.seq hB, Or.inl (Nat.le_refl _)⟩, fin D H s1 hL⟩
theorem atN {α : Type} {xs : List α} {i : Nat} {x : α} (h : xs[i]? = some x) : atI xs (i : Int) = some x := L2.atI_nat h
/-- as comp_L, the new list being new -/
theorem comp_LF {K : PySem.W.Frag} {a : Addr} {xs : List V} {g : TG} {tt : TT} {te : TE} {vs : List Nat} {σ : St} {H1 : Hp} {Q : VK} (hT : SqL K H1 a xs) (outs : Nat → Option V) (hn : xs.length < 2 ^ 22)
    (turn : ∀ i x H', xs[i]? = some x → Same H1 H' → ∀ Qo : Option V → Hp → Prop, (∀ H2, Same H' H2 → Qo (outs i) H2) → g x (wipe σ vs) H' fun σ2 H2 => wipe σ2 vs = wipe σ vs ∧ tt σ2 H2 fun b H3 => if b = true then te σ2 H3 fun y H4 => Qo (some y) H4 else Qo none H3)
    (fin : ∀ D H', H1 D = none → Same H1 H' → H' D = some (.lst (outL outs xs.length)) → Q (.ref D) H') : LcW (Itl K a) H1 g tt te vs σ Q := fun D hD =>
  lc_list (K := K) (a := a) (xs := xs) (fun i H' => Same H1 H' ∧ H' D = some (.lst (outL outs i))) ⟨fun b u h => by rw [upd_ne (ne_of_none h hD)]; exact h, upd_same⟩ (fun i H' _ p => p.1.seq hT)
    (fun i x H' hx p => turn i x H' hx p.1 (OutOf D fun H' => Same H1 H' ∧ H' D = some (.lst (outL outs (i + 1)))) fun H2 s => out_ok hD outs (by
      have := List.getElem?_eq_some_iff.mp hx
      exact this.1) hn p s) (fun H' p => fin D H' hD p.1 p.2)
theorem comp_TF {K : PySem.W.Frag} {a : Addr} {xs : List V} {g : TG} {tt : TT} {te : TE} {vs : List Nat} {σ : St} {H1 : Hp} {Q : VK} (hT : H1 a = some (.tup xs)) (outs : Nat → Option V) (hn : xs.length < 2 ^ 22)
    (turn : ∀ i x H', xs[i]? = some x → Same H1 H' → ∀ Qo : Option V → Hp → Prop, (∀ H2, Same H' H2 → Qo (outs i) H2) → g x (wipe σ vs) H' fun σ2 H2 => wipe σ2 vs = wipe σ vs ∧ tt σ2 H2 fun b H3 => if b = true then te σ2 H3 fun y H4 => Qo (some y) H4 else Qo none H3)
    (fin : ∀ D H', H1 D = none → Same H1 H' → H' D = some (.lst (outL outs xs.length)) → Q (.ref D) H') : LcW (Itt K a) H1 g tt te vs σ Q := fun D hD =>
  lc_tup (K := K) (a := a) (xs := xs) (fun i H' => Same H1 H' ∧ H' D = some (.lst (outL outs i))) ⟨fun b u h => by rw [upd_ne (ne_of_none h hD)]; exact h, upd_same⟩ (fun i H' _ p => sqT_of (p.1 _ _ hT))
    (fun i x H' hx p => turn i x H' hx p.1 (OutOf D fun H' => Same H1 H' ∧ H' D = some (.lst (outL outs (i + 1)))) fun H2 s => out_ok hD outs (by
      have := List.getElem?_eq_some_iff.mp hx
      exact this.1) hn p s) (fun H' p => fin D H' hD p.1 p.2)
/-- a comprehension over enumerate of a list, with an invariant of one's own -/
theorem comp_EL {K : PySem.W.Frag} {a : Addr} {xs : List V} {g : TG} {tt : TT} {te : TE} {vs : List Nat} {σ : St} {H1 : Hp} {Q : VK} (Pv : Addr → Nat → Hp → Prop) (h0 : ∀ D, H1 D = none → Pv D 0 (upd H1 D (.lst []))) (hl : ∀ D i H, Pv D i H → SqL K H a xs)
    (turn : ∀ D i x T H', H1 D = none → xs[i]? = some x → Pv D i H' → H' T = none → g (.ref T) (wipe σ vs) (upd H' T (.tup [.int (i : Nat), x])) fun σ2 H2 => wipe σ2 vs = wipe σ vs ∧ tt σ2 H2 fun b H3 => if b = true then te σ2 H3 fun y H4 => OutOf D (Pv D (i + 1)) (some y) H4 else Pv D (i + 1) H3)
    (fin : ∀ D H', H1 D = none → Pv D xs.length H' → Q (.ref D) H') : LcW (Ite K a) H1 g tt te vs σ Q := fun D hD => by
  refine ⟨fun i m H => m = xs.length - i ∧ i ≤ xs.length ∧ Pv D i H, ⟨xs.length, by simp, Nat.zero_le _, h0 D hD⟩, ?_⟩
  rintro i m H ⟨rfl, hi, p⟩
  by_cases hlt : i < xs.length
  · refine .inr ⟨⟨xs, _, hl D i H p, List.getElem?_eq_getElem hlt⟩, Pv D (i + 1), fun H' p' => ⟨xs.length - (i + 1), by omega, rfl, hlt, p'⟩, fun v H' y => ?_⟩
    obtain ⟨T, x, rfl, hT, rfl, f⟩ := y
    exact turn D i x T H hD (f xs (hl D i H p)) p hT
  · obtain rfl : i = xs.length := by omega
    exact .inl ⟨⟨xs, hl D _ H p, Nat.le_refl _⟩, fin D H hD p⟩
theorem none_back {H H' : Hp} {p : Addr} (s : Same H H') (h : H' p = none) : H p = none := by
  cases e : H p with
  | none => rfl
  | some o => rw [s p o e] at h; cases h
/-- a list of ints -/
def ListI (H : Hp) (v : V) (ns : List Int) : Prop := ∃ a, v = .ref a ∧ H a = some (.lst (ns.map V.int))
theorem ListI.same {H H' : Hp} {v : V} {ns : List Int} (h : ListI H v ns) (s : Same H H') : ListI H' v ns := by
  obtain ⟨a, e, h⟩ := h
  exact ⟨a, e, s _ _ h⟩
abbrev gI := Lin.gI
abbrev mixF := Lin.mixF
theorem ixLI {K : PySem.W.Frag} {H : Hp} {a : Addr} {ns : List Int} {c : Nat} {Q : VK} (h : H a = some (.lst (ns.map V.int))) (hc : c < ns.length) (q : Q (.int (ns.getD c 0)) H) : rIxA K (.ref a) (.int (c : Int)) H Q := by
  refine ixL (sqL_of h) (v := .int (ns.getD c 0)) (atN ?_) q
  rw [List.getElem?_map, List.getElem?_eq_getElem hc, List.getD_eq_getElem?_getD, List.getElem?_eq_getElem hc]
  rfl
/-! plain data read as tables -/
def numB (g lim : Int) : PyData → Bool
  | .int n => decide (g ≠ 0 ∧ 0 ≤ n ∧ n < g)
  | .tuple [.int a, .int b] => decide (g = 0 ∧ (-lim < a ∧ a < lim) ∧ (-lim < b ∧ b < lim) ∧ 1 ≤ b ∧ Nat.gcd a.natAbs b.natAbs = 1)
  | _ => false
def dlen : PyData → Nat
  | .tuple ds => ds.length
  | _ => 0
def isTup : PyData → Bool
  | .tuple _ => true
  | _ => false
def vecB (g : Int) (m : Nat) (lim : Int) : PyData → Bool
  | .tuple ds => decide (ds.length = m) && ds.all (numB g lim)
  | _ => false
def lenB (m : Int) : PyData → Bool
  | .tuple ds => decide (1 ≤ ds.length ∧ (ds.length : Int) ≤ m)
  | _ => false
def rowsB (mr mc : Int) : PyData → Bool
  | .tuple ds => lenB mr (.tuple ds) && ds.all (lenB mc) && ds.all fun d => decide (dlen d = dlen (ds.getD 0 .none))
  | _ => false
def tabB (g mr mc lim : Int) : PyData → Bool
  | .tuple ds => rowsB mr mc (.tuple ds) && ds.all fun d => vecB g (dlen d) lim d
  | _ => false
theorem lenB_t {m : Int} {ds : List PyData} : lenB m (.tuple ds) = decide (1 ≤ ds.length ∧ (ds.length : Int) ≤ m) := rfl
theorem vecB_t {g l : Int} {m : Nat} {ds : List PyData} : vecB g m l (.tuple ds) = (decide (ds.length = m) && ds.all (numB g l)) := rfl
theorem rowsB_t {mr mc : Int} {ds : List PyData} : rowsB mr mc (.tuple ds) = (lenB mr (.tuple ds) && ds.all (lenB mc) && ds.all fun d => decide (dlen d = dlen (ds.getD 0 .none))) := rfl
theorem tabB_t {g mr mc l : Int} {ds : List PyData} : tabB g mr mc l (.tuple ds) = (rowsB mr mc (.tuple ds) && ds.all fun d => vecB g (dlen d) l d) := rfl
theorem Pl.same {H H' : Hp} {no : List Addr} {d : PyData} {v : V} (p : Pl H no d v) (s : Same H H') : Pl H' no d v := Pl.mono (KN.same s) _ _ p
theorem plAll_all2 {H : Hp} {no : List Addr} : ∀ {ds : List PyData} {xs : List V}, PlAll H no ds xs → All2 (fun x d => Pl H no d x) xs ds
  | [], xs, h => by
    rw [PlAll] at h
    subst h
    exact ⟨rfl, fun i v q a b => by simp at a⟩
  | d :: ds, xs, h => by
    rw [PlAll] at h
    obtain ⟨y, ys, rfl, h1, h2⟩ := h
    have ih := plAll_all2 h2
    refine ⟨by simp [ih.1], fun i v q a b => ?_⟩
    cases i with
    | zero => simp at a b; subst a; subst b; exact h1
    | succ i => exact ih.2 i v q (by simpa using a) (by simpa using b)
theorem pl_tup {H : Hp} {no : List Addr} {ds : List PyData} {v : V} (h : Pl H no (.tuple ds) v) : ∃ a xs, v = .ref a ∧ H a = some (.tup xs) ∧ All2 (fun x d => Pl H no d x) xs ds := by
  rw [Pl] at h
  obtain ⟨a, xs, e, _, hT, hA⟩ := h
  exact ⟨a, xs, e, hT, plAll_all2 hA⟩
theorem Pl.kn {H : Hp} {no : List Addr} : ∀ {d : PyData} {v : V}, Pl H no d v → Kn H v := fun {d v} h => by
  cases d with
  | list ds =>
    rw [Pl] at h
    obtain ⟨a, xs, rfl, _, q, _⟩ := h
    exact .inl ⟨xs, q⟩
  | tuple ds =>
    rw [Pl] at h
    obtain ⟨a, xs, rfl, _, q, _⟩ := h
    exact .inr (.inl ⟨xs, q⟩)
  | dict kvs =>
    rw [Pl] at h
    obtain ⟨_, a, rfl, _, q⟩ := h
    exact .inr (.inr ⟨_, q⟩)
  | _ =>
    rw [Pl] at h
    subst h
    trivial
theorem pl_not {H : Hp} {no : List Addr} {d : PyData} {v : V} (p : Pl H no d v) (h : isTup d = false) (xs : List V) : ¬ TupV H v xs := fun ⟨a, e, ha⟩ => by
  cases d with
  | tuple ds => simp [isTup] at h
  | list ds =>
    rw [Pl] at p
    obtain ⟨b, ys, e2, _, q, _⟩ := p
    rw [e] at e2
    cases e2
    rw [ha] at q
    cases q
  | dict kvs =>
    rw [Pl] at p
    obtain ⟨_, b, e2, _, q⟩ := p
    rw [e] at e2
    cases e2
    rw [ha] at q
    cases q
  | _ =>
    rw [Pl] at p
    rw [e] at p
    cases p
theorem isi_pl {K : PySem.W.Frag} {H : Hp} {no : List Addr} {d : PyData} {v : V} {Q : VK} (p : Pl H no d v) (q : Q (.bl (isTup d)) H) : rIsi K [v, .ty "tuple"] H Q := by
  cases h : isTup d with
  | false => rw [h] at q; exact isi_kn_tuple p.kn (fun xs t => absurd t (pl_not p h xs)) fun _ => q
  | true =>
    rw [h] at q
    refine isi_kn_tuple p.kn (fun _ _ => q) fun n => ?_
    cases d with
    | tuple ds =>
      obtain ⟨a, xs, rfl, hT, _⟩ := pl_tup p
      exact absurd ⟨a, rfl, hT⟩ (n xs)
    | _ => simp [isTup] at h
theorem tup_of {d : PyData} (h : isTup d = true) : ∃ ds, d = .tuple ds := by
  cases d with
  | tuple ds => exact ⟨ds, rfl⟩
  | _ => simp [isTup] at h
theorem pl_int {H : Hp} {no : List Addr} {d : PyData} {n : Int} (p : Pl H no d (.int n)) : d = .int n := by
  cases d with
  | list ds =>
    rw [Pl] at p
    obtain ⟨_, _, e, _⟩ := p
    cases e
  | tuple ds =>
    rw [Pl] at p
    obtain ⟨_, _, e, _⟩ := p
    cases e
  | dict ds =>
    rw [Pl] at p
    obtain ⟨_, _, e, _⟩ := p
    cases e
  | int m =>
    rw [Pl] at p
    cases p
    rfl
  | _ =>
    rw [Pl] at p
    cases p
theorem pl_num {H : Hp} {no : List Addr} {d : PyData} {v : V} {g l : Int} (p : Pl H no d v) : Kn2 H v ∧ (NumV H g v l ↔ numB g l d = true) := by
  refine ⟨⟨p.kn, fun xs t x hx => ?_⟩, ?_⟩
  · cases h : isTup d with
    | false => exact absurd t (pl_not p h xs)
    | true =>
      obtain ⟨ds, rfl⟩ := tup_of h
      obtain ⟨a, ys, rfl, hT, hA⟩ := pl_tup p
      obtain ⟨b, e, hb⟩ := t
      cases e
      rw [hT] at hb
      cases hb
      obtain ⟨i, hi⟩ := List.mem_iff_getElem?.mp hx
      obtain ⟨e, _, pe⟩ := hA.get hi
      exact pe.kn
  · cases d with
    | int n =>
      rw [Pl] at p
      subst p
      unfold NumV numB
      rw [decide_eq_true_eq]
      constructor
      · rintro (⟨h1, m, e, h2, h3⟩ | ⟨_, t, b, ⟨a, e, _⟩, _⟩)
        · cases e; exact ⟨h1, h2, h3⟩
        · cases e
      · rintro ⟨h1, h2, h3⟩
        exact .inl ⟨h1, n, rfl, h2, h3⟩
    | tuple ds =>
      obtain ⟨a, ys, rfl, hT, hA⟩ := pl_tup p
      constructor
      · rintro (⟨h1, m, e, h2, h3⟩ | ⟨h1, t, b, ⟨a2, e, ha⟩, h2⟩)
        · cases e
        · cases e
          rw [hT] at ha
          cases ha
          match ds, hA with
          | [d1, d2], hA =>
            have e1 := hA.2 0 _ _ rfl rfl
            have e2 := hA.2 1 _ _ rfl rfl
            have f1 : d1 = .int t := pl_int e1
            have f2 : d2 = .int b := pl_int e2
            subst f1; subst f2
            unfold numB
            rw [decide_eq_true_eq]
            exact ⟨h1, h2⟩
          | [], hA => exact absurd hA.1 (by simp)
          | [_], hA => exact absurd hA.1 (by simp)
          | _ :: _ :: _ :: _, hA => exact absurd hA.1 (by simp)
      · intro h
        unfold numB at h
        split at h
        · contradiction
        · rename_i x y e
          cases e
          rw [decide_eq_true_eq] at h
          match ys, hA with
          | [u, w], hA =>
            have e1 : Pl H no (.int x) u := hA.2 0 _ _ rfl rfl
            have e2 : Pl H no (.int y) w := hA.2 1 _ _ rfl rfl
            rw [Pl] at e1 e2
            subst e1; subst e2
            exact .inr ⟨h.1, x, y, ⟨a, rfl, hT⟩, h.2⟩
          | [], hA => exact absurd hA.1 (by simp)
          | [_], hA => exact absurd hA.1 (by simp)
          | _ :: _ :: _ :: _, hA => exact absurd hA.1 (by simp)
        · cases h
    | _ =>
      refine ⟨fun h => ?_, fun h => by simp [numB] at h⟩
      rcases h with ⟨_, m, e, _⟩ | ⟨_, t, b, ⟨a, e, ha⟩, _⟩
      · rw [e] at p
        have := pl_int p
        cases this
      · exact absurd ⟨a, e, ha⟩ (pl_not p rfl _)
def RaiseF (K : PySem.W.Frag) (E : XK) (H : Hp) (c f : String) (v : V) : Prop := ∀ H' dd, Same H H' → H' dd = none → E (.ref (He.ga K c)) (some dd) (upd H' dd (.xd [(f, v)]))
def Raise0 (K : PySem.W.Frag) (E : XK) (H : Hp) (c : String) : Prop := ∀ H', Same H H' → E (.ref (He.ga K c)) none H'
/-- ground and table, one of them being none -/
def Bad2 (K : PySem.W.Frag) (E : XK) (H : Hp) (v w : V) : Prop := ∃ (d e : PyData) (no : List Addr), Pl H no d v ∧ Pl H no e w ∧ ((¬ GroundV v ∧ RaiseF K E H "InvalidGround" "value" v) ∨ (∃ g, v = .int g ∧ GroundV v ∧ tabB g 12 12 (10 ^ 20) e = false ∧ Raise0 K E H "InvalidTable"))
/-- both are well -/
def Good2 (H : Hp) (v w : V) (ds : List PyData) : Prop := ∃ (g : Int) (no : List Addr), v = .int g ∧ GroundV v ∧ Pl H no (.tuple ds) w ∧ tabB g 12 12 (10 ^ 20) (.tuple ds) = true
theorem Bad2.same {K : PySem.W.Frag} {E : XK} {H H' : Hp} {v w : V} (h : Bad2 K E H v w) (s : Same H H') : Bad2 K E H' v w := by
  obtain ⟨d, e, no, p, q, h⟩ := h
  refine ⟨d, e, no, p.same s, q.same s, ?_⟩
  rcases h with ⟨a, b⟩ | ⟨g, a, b, c, r⟩
  · exact .inl ⟨a, fun H2 dd s2 n => b H2 dd (s.trans s2) n⟩
  · exact .inr ⟨g, a, b, c, fun H2 s2 => r H2 (s.trans s2)⟩
theorem Good2.same {H H' : Hp} {v w : V} {ds : List PyData} (h : Good2 H v w ds) (s : Same H H') : Good2 H' v w ds := by
  obtain ⟨g, no, e, hg, p, t⟩ := h
  exact ⟨g, no, e, hg, p.same s, t⟩
theorem len_any {K : PySem.W.Frag} {a : Addr} {xs : List V} {g : TG} {te : TE} {vs : List Nat} {σ : St} {H1 : Hp} {Q : VK} {c : Nat → Int} (hT : H1 a = some (.tup xs)) (h1 : 1 ≤ xs.length) (h2 : xs.length ≤ 100)
    (turn : ∀ (i : Nat) (x : V) (H' : Hp), xs[i]? = some x → Same H1 H' → ∀ (Qo : VK) (N : Hp → Prop), Qo (.int (c i)) H' → g x (wipe σ vs) H' fun σ2 H2 => wipe σ2 vs = wipe σ vs ∧ tYes σ2 H2 fun b H3 => if b = true then te σ2 H3 Qo else N H3)
    (fin : ∀ (n : Nat) H', Same H1 H' → (n = 1 ↔ ∀ i, i < xs.length → c i = c 0) → Q (.int (n : Int)) H') : LenW (Itt K a) H1 g tYes te vs σ Q := by
  intro D F hD
  have sq : ∀ {H : Hp}, H a = some (.tup xs) → SqT K H a xs := fun h => .inl (.inl h)
  let G : Nat → Hp → Prop := fun i H => ∃ S n, H D = some (F S n) ∧ n ≤ i ∧ (i = 0 → n = 0 ∧ ∀ k, S k = false) ∧ (0 < i → 1 ≤ n ∧ S (c 0) = true ∧ (n = 1 ↔ ∀ j, j < i → c j = c 0) ∧ (n = 1 → ∀ k, S k = true → k = c 0))
  refine ⟨fun i m H => m = xs.length - i ∧ i ≤ xs.length ∧ Same H1 H ∧ G i H, ⟨xs.length, by simp, Nat.zero_le _, fun b u h => by rw [upd_ne (ne_of_none h hD)]; exact h, _, _, upd_same, Nat.le_refl _, fun _ => ⟨rfl, fun _ => rfl⟩, fun h => absurd h (by omega)⟩, ?_⟩
  rintro i m H2 ⟨rfl, hi, s, S, n, hS, hn, h0, hp⟩
  by_cases hlt : i < xs.length
  · refine .inr ⟨⟨xs, xs[i], sq (s _ _ hT), by simp [hlt]⟩, fun H' => Same H1 H' ∧ G (i + 1) H', fun H' ⟨s', g'⟩ => ⟨xs.length - (i + 1), by omega, rfl, hlt, s', g'⟩, fun x H3 y => ?_⟩
    obtain ⟨e, y⟩ := y
    subst e
    have n1 : n + 1 < scanBound := Nat.lt_of_le_of_lt (show n + 1 ≤ 101 by omega) (by decide)
    refine turn i x _ (y xs (sq (s _ _ hT))) s (fun y H6 => ∃ (c : Int) (S : Int → Bool) (n : Nat), y = .int c ∧ H6 D = some (F S n) ∧ n + 1 < scanBound ∧ (Same H1 (upd H6 D (F (fun k => S k || decide (k = c)) (if S c = true then n else n + 1))) ∧ G (i + 1) (upd H6 D (F (fun k => S k || decide (k = c)) (if S c = true then n else n + 1))))) _
      ⟨c i, S, n, rfl, hS, n1, same_mutD s hD, _, _, upd_same, by split <;> omega, fun z => by omega, fun _ => ?_⟩
    rcases Nat.eq_zero_or_pos i with e | e
    · subst e
      obtain ⟨z1, z2⟩ := h0 rfl
      rw [if_neg (by rw [z2]; decide), z1]
      refine ⟨by omega, by simp, ⟨fun _ j hj => by rw [show j = 0 by omega], fun _ => rfl⟩, fun _ k hk => ?_⟩
      simpa [z2] using hk
    · obtain ⟨p1, p2, p3, p4⟩ := hp e
      by_cases hc : S (c i) = true
      · rw [if_pos hc]
        refine ⟨p1, by simp [p2], ⟨fun e1 j hj => ?_, fun q => p3.2 fun j hj => q j (by omega)⟩, fun e1 k hk => ?_⟩
        · by_cases ej : j < i
          · exact p3.1 e1 j ej
          · rw [show j = i by omega]; exact p4 e1 _ hc
        · have hk2 : S k = true ∨ k = c i := by simpa using hk
          rcases hk2 with hk2 | hk2
          · exact p4 e1 k hk2
          · rw [hk2]; exact p4 e1 _ hc
      · rw [if_neg hc]
        refine ⟨by omega, by simp [p2], ⟨fun e1 => by omega, fun q => ?_⟩, fun e1 => by omega⟩
        exact absurd (by rw [q i (by omega)]; exact p2) hc
  · obtain rfl : i = xs.length := by omega
    obtain ⟨p1, _, p3, _⟩ := hp (by omega)
    exact .inl ⟨⟨xs, sq (s _ _ hT), Nat.le_refl _⟩, S, n, hS, fin n H2 s p3⟩
theorem outL_map {α : Type} (f : α → V) (l : List α) : outL (fun i => (l[i]?).map f) l.length = l.map f := by
  exact outL_get l f rfl
theorem sqT_up {K : PySem.W.Frag} {H H' : Hp} {a : Addr} {xs : List V} (h : SqT K H a xs) (s : Same H H') : SqT K H' a xs := by
  rcases h with (h | ⟨o, h⟩) | h
  · exact .inl (.inl (s _ _ h))
  · exact .inl (.inr ⟨o, s _ _ h⟩)
  · exact .inr h
/-- a tuple of ints, wherever it stands -/
def TupI (K : PySem.W.Frag) (H : Hp) (v : V) (ns : List Int) : Prop := ∃ a, v = .ref a ∧ SqT K H a (ns.map V.int)
/-- an inner poly -/
def InP (K : PySem.W.Frag) (H : Hp) (v : V) (ns : List Int) (b : Int) : Prop := ∃ a t, v = .ref a ∧ SqT K H a [t, .int b] ∧ TupI K H t ns
theorem TupI.same {K : PySem.W.Frag} {H H' : Hp} {v : V} {ns : List Int} (h : TupI K H v ns) (s : Same H H') : TupI K H' v ns := by
  obtain ⟨a, e, h⟩ := h
  exact ⟨a, e, sqT_up h s⟩
theorem InP.same {K : PySem.W.Frag} {H H' : Hp} {v : V} {ns : List Int} {b : Int} (h : InP K H v ns b) (s : Same H H') : InP K H' v ns b := by
  obtain ⟨a, t, e, h, i⟩ := h
  exact ⟨a, t, e, sqT_up h s, i.same s⟩
theorem dp_ints {K : PySem.W.Frag} {H : Hp} : ∀ ns : List Int, DpAll K H (ns.map V.int) (ns.map PyData.int)
  | [] => .nil
  | n :: ns => .cons (.int n) (dp_ints ns)
theorem ints_dpP {K : PySem.W.Frag} {H : Hp} : ∀ (ns : List Int) (xs : List V), DpAll K H xs (ns.map PyData.int) → xs = ns.map V.int
  | [], _, h => by cases h; rfl
  | n :: ns, _, h => by
    cases h with
    | cons h1 h2 =>
      cases h1
      rw [ints_dpP ns _ h2]
      rfl
def inD (ns : List Int) (b : Int) : PyData := .tuple [.tuple (ns.map PyData.int), .int b]
theorem InP.dp {K : PySem.W.Frag} {H : Hp} {v : V} {ns : List Int} {b : Int} (h : InP K H v ns b) : Dp K H v (inD ns b) := by
  obtain ⟨a, t, rfl, h, a2, rfl, h2⟩ := h
  exact .tup h (.cons (.tup h2 (dp_ints ns)) (.cons (.int b) .nil))
theorem InP.of {K : PySem.W.Frag} {H : Hp} {v : V} {ns : List Int} {b : Int} (h : Dp K H v (inD ns b)) : InP K H v ns b := by
  unfold inD at h
  cases h with
  | tup h hA =>
    cases hA with
    | cons h1 h2 =>
      cases h2 with
      | cons h2 h3 =>
        cases h2
        cases h3
        cases h1 with
        | tup h4 h5 =>
          rw [ints_dpP ns _ h5] at h4
          exact ⟨_, _, rfl, h, _, rfl, h4⟩
theorem lay_ints : ∀ ns : List Int, PyData.canLayAll0 (ns.map PyData.int) = true ∧ PyData.depthAll (ns.map PyData.int) = 0
  | [] => ⟨rfl, rfl⟩
  | n :: ns => by
    obtain ⟨h1, h2⟩ := lay_ints ns
    refine ⟨?_, ?_⟩
    · simp only [List.map_cons, PyData.canLayAll0, PyData.canLay0, h1, Bool.and_self]
    · simp only [List.map_cons, PyData.depthAll, PyData.depth, h2, Nat.max_self]
theorem inD_shaped (ns : List Int) (b : Int) : SeqAt.shaped (inD ns b) = true := by
  obtain ⟨h1, h2⟩ := lay_ints ns
  unfold SeqAt.shaped inD
  simp only [PyData.canLay0, PyData.canLayAll0, PyData.depth, PyData.depthAll, h1, h2, Bool.and_self, Bool.true_and]
  decide
theorem inD_eqv (ns ms : List Int) (b c : Int) : PyData.eqv (inD ns b) (inD ms c) = decide (ns = ms ∧ b = c) := by
  have key : ∀ ns ms : List Int, PyData.eqvAll (ns.map PyData.int) (ms.map PyData.int) = decide (ns = ms) := by
    intro ns
    induction ns with
    | nil => intro ms; cases ms <;> simp [PyData.eqvAll]
    | cons n ns ih =>
      intro ms
      cases ms with
      | nil => simp [PyData.eqvAll]
      | cons m ms =>
        rw [List.map_cons, List.map_cons, PyData.eqvAll, ih, PyData.eqv]
        by_cases h1 : n = m <;> by_cases h2 : ns = ms <;> simp [h1, h2]
  unfold inD
  by_cases h1 : ns = ms <;> by_cases h2 : b = c <;> simp [PyData.eqv, PyData.eqvAll, key, h1, h2]
theorem in_eq {K : PySem.W.Frag} {H : Hp} {x y : V} {ns ms : List Int} {b c : Int} {Q : VK} (h : InP K H x ns b) (h2 : InP K H y ms c) (q : Q (.bl (decide (ns = ms ∧ b = c))) H) : rEqD K x y H Q := by
  refine ⟨_, _, h.dp, h2.dp, inD_shaped _ _, inD_shaped _ _, ?_⟩
  rw [inD_eqv]; exact q
theorem in_ne {K : PySem.W.Frag} {H : Hp} {x y : V} {ns ms : List Int} {b c : Int} {Q : VK} (h : InP K H x ns b) (h2 : InP K H y ms c) (q : Q (.bl (!decide (ns = ms ∧ b = c))) H) : rNeD K x y H Q := by
  refine ⟨_, _, h.dp, h2.dp, inD_shaped _ _, inD_shaped _ _, ?_⟩
  rw [inD_eqv]; exact q
/-- its parts -/
theorem InP.ix0 {K : PySem.W.Frag} {H : Hp} {v : V} {ns : List Int} {b : Int} {Q : VK} (h : InP K H v ns b) (q : ∀ t, TupI K H t ns → Q t H) : rIxA K v (.int 0) H Q := by
  obtain ⟨a, t, rfl, h, i⟩ := h
  exact ixT h (v := t) rfl (q t i)
theorem InP.ix1 {K : PySem.W.Frag} {H : Hp} {v : V} {ns : List Int} {b : Int} {Q : VK} (h : InP K H v ns b) (q : Q (.int b) H) : rIxA K v (.int 1) H Q := by
  obtain ⟨a, t, rfl, h, i⟩ := h
  exact ixT h (v := .int b) rfl q
theorem TupI.len {K : PySem.W.Frag} {H : Hp} {v : V} {ns : List Int} {Q : VK} (h : TupI K H v ns) (q : Q (.int (ns.length : Int)) H) : rLenU K [v] H Q := by
  obtain ⟨a, rfl, h⟩ := h
  refine lenT h ?_
  rw [List.length_map]; exact q
theorem TupI.last {K : PySem.W.Frag} {H : Hp} {v : V} {ns : List Int} {n : Int} {Q : VK} (h : TupI K H v (ns ++ [n])) (q : Q (.int n) H) : rIxA K v (.int (-1)) H Q := by
  obtain ⟨a, rfl, h⟩ := h
  refine ixT h (v := .int n) ?_ q
  rw [List.map_append]
  exact L2.atI_last _ _
theorem in_new {K : PySem.W.Frag} {H : Hp} {p : Addr} {t : V} {ns : List Int} {b : Int} (hp : H p = none) (h : TupI K H t ns) : InP K (upd H p (.tup [t, .int b])) (.ref p) ns b := ⟨p, t, rfl, sqT_of upd_same, h.same (same_upd hp)⟩
/-- without the zeros at the end -/
def trim : List Int → List Int
  | [] => []
  | n :: l => match trim l with
    | [] => if n = 0 then [] else [n]
    | m :: r => n :: m :: r
theorem trim_zero (l : List Int) : trim (l ++ [0]) = trim l := by
  induction l with
  | nil => rfl
  | cons n l ih => simp only [List.cons_append, trim, ih]
theorem trim_full (l : List Int) {n : Int} (h : n ≠ 0) : trim (l ++ [n]) = l ++ [n] := by
  induction l with
  | nil => simp [trim, h]
  | cons m l ih =>
    simp only [List.cons_append, trim, ih]
    cases l <;> simp
theorem trim_mem {l : List Int} : ∀ n ∈ trim l, n ∈ l := by
  induction l with
  | nil => simp [trim]
  | cons m l ih =>
    intro n hn
    simp only [trim] at hn
    cases e : trim l with
    | nil =>
      rw [e] at hn
      simp only at hn
      split at hn
      · simp at hn
      · simp at hn; simp [hn]
    | cons a r =>
      rw [e] at hn ih
      simp only [List.mem_cons] at hn
      rcases hn with hn | hn
      · simp [hn]
      · exact List.mem_cons_of_mem _ (ih n (by simpa using hn))
theorem trim_len (l : List Int) : (trim l).length ≤ l.length := by
  induction l with
  | nil => simp [trim]
  | cons m l ih =>
    simp only [trim]
    cases e : trim l with
    | nil => simp only; split <;> simp
    | cons a r =>
      rw [e] at ih
      simpa using ih
theorem cut_toP {xs : List V} {n : Nat} (h : n ≤ xs.length) : cutV xs none (some (n : Int)) = xs.take n := by
  unfold cutV
  have e0 : HT.sIx xs.length 0 none = 0 := rfl
  have e1 : HT.sIx xs.length xs.length (some (n : Int)) = n := by
    rw [HT.sIx_nat, Nat.min_eq_left h]
  rw [e0, e1]
  simp
theorem cut_all {xs : List V} : cutV xs none none = xs := by
  unfold cutV
  have e0 : HT.sIx xs.length 0 none = 0 := rfl
  have e1 : HT.sIx xs.length xs.length none = xs.length := rfl
  rw [e0, e1]
  simp
theorem tru_len {n : Nat} (h : n < 2 ^ 20) : n ≤ sizeLine := Nat.le_trans (Nat.le_of_lt h) (by decide)
theorem comp_SB {K : PySem.W.Frag} {b : Bool} {a : Addr} {xs : List V} {g : TG} {tt : TT} {te : TE} {vs : List Nat} {σ : St} {H1 : Hp} {Q : VK} (hT : SqB b K H1 a xs) (outs : Nat → Option V) (hn : xs.length < 2 ^ 22)
    (turn : ∀ i x H', xs[i]? = some x → Same H1 H' → ∀ Qo : Option V → Hp → Prop, (∀ H2, Same H' H2 → Qo (outs i) H2) → g x (wipe σ vs) H' fun σ2 H2 => wipe σ2 vs = wipe σ vs ∧ tt σ2 H2 fun b H3 => if b = true then te σ2 H3 fun y H4 => Qo (some y) H4 else Qo none H3)
    (fin : ∀ D H', Same H1 H' → H' D = some (.lst (outL outs xs.length)) → Q (.ref D) H') : LcW (ItB b K a) H1 g tt te vs σ Q := by
  cases b
  · exact comp_T hT outs hn turn fin
  · exact comp_L hT outs hn turn fin
theorem for_SB {K : PySem.W.Frag} {b : Bool} {a : Addr} {xs : List V} {g : TG} {tb : TS} {D : Ends} {σ : St} {H : Hp} (Pv : Nat → St → Hp → Prop) (h0 : Pv 0 σ H) (hl : ∀ i σ H, i ≤ xs.length → Pv i σ H → SqB b K H a xs)
    (hs : ∀ i x σ H, xs[i]? = some x → Pv i σ H → ∀ N : St → Hp → Prop, (∀ σ' H', Pv (i + 1) σ' H' → N σ' H') → g x σ H fun σ2 H2 => tb { D with nx := N, ct := N, bk := D.nx } σ2 H2) (hd : ∀ σ H, Pv xs.length σ H → D.nx σ H) : ForW (ItB b K a) H g tb D σ := by
  cases b
  · exact for_T Pv h0 hl hs hd
  · exact for_L Pv h0 hl hs hd
theorem sqB_up {K : PySem.W.Frag} {b : Bool} {H H' : Hp} {a : Addr} {xs : List V} (h : SqB b K H a xs) (s : Same H H') : SqB b K H' a xs := by
  cases b
  · exact sqT_up h s
  · exact s.seq h
theorem ixn2 {n i j : Nat} (h : i + j < n) : ixN n ((i : Int) + (j : Int)) = some (i + j) := by
  unfold ixN
  rw [if_pos (by omega), if_pos (by omega)]
  congr 1
theorem get_int {ns : List Int} {i : Nat} {x : V} (h : (ns.map V.int)[i]? = some x) : ∃ n, ns[i]? = some n ∧ x = .int n := by
  rw [List.getElem?_map] at h
  obtain ⟨n, hn, rfl⟩ := Option.map_eq_some_iff.mp h
  exact ⟨n, hn, rfl⟩
theorem int_get {ns : List Int} {i : Nat} (h : i < ns.length) : (ns.map V.int)[i]? = some (.int (ns.getD i 0)) := by
  rw [List.getElem?_map, List.getElem?_eq_getElem h, List.getD_eq_getElem?_getD, List.getElem?_eq_getElem h]; rfl
theorem take_succ_of {ns : List Int} {i : Nat} {n : Int} (h : ns[i]? = some n) : ns.take (i + 1) = ns.take i ++ [n] := by rw [List.take_succ, h]; rfl
theorem lt_of_get {ns : List Int} {i : Nat} {n : Int} (h : ns[i]? = some n) : i < ns.length := (List.getElem?_eq_some_iff.mp h).1
theorem sIx_m1 (n d : Nat) : HT.sIx n d (some (-1)) = n - 1 := by
  show (if (-1 : Int) < 0 then ((-1 : Int) + (n : Int)).toNat else min (-1 : Int).toNat n) = n - 1
  rw [if_pos (by decide)]
  omega
theorem cut_last (xs : List V) (x : V) : cutV (xs ++ [x]) none (some (-1)) = xs := by
  unfold cutV
  have e0 : HT.sIx (xs ++ [x]).length 0 none = 0 := rfl
  have e1 : HT.sIx (xs ++ [x]).length (xs ++ [x]).length (some (-1)) = xs.length := by
    rw [sIx_m1, List.length_append, List.length_singleton]
    rfl
  rw [e0, e1]
  simp
/-! inner polys over the fractions, as they are computed -/
abbrev Ip := List Int × Int
def InQ (K : PySem.W.Frag) (H : Hp) (x : V) (p : Ip) : Prop := InP K H x p.1 p.2
theorem InQ.same {K : PySem.W.Frag} {H H' : Hp} {x : V} {p : Ip} (h : InQ K H x p) (s : Same H H') : InQ K H' x p := InP.same h s
def gcdL : Int → List Int → Int
  | c, [] => c
  | c, z :: zs => gcdL ((Nat.gcd c.natAbs z.natAbs : Nat) : Int) zs
def stQ (zs : List Int) (B : Int) : Ip := (trim (zs.map (· / (if B < 0 then -gcdL (B.natAbs : Int) zs else gcdL (B.natAbs : Int) zs))), B / (if B < 0 then -gcdL (B.natAbs : Int) zs else gcdL (B.natAbs : Int) zs))
theorem gcd_dvdL (a b : Int) : ((Nat.gcd a.natAbs b.natAbs : Nat) : Int) ∣ a := Int.natAbs_dvd_natAbs.mp (by rw [Int.natAbs_natCast]; exact Nat.gcd_dvd_left _ _)
theorem gcd_dvdR (a b : Int) : ((Nat.gcd a.natAbs b.natAbs : Nat) : Int) ∣ b := Int.natAbs_dvd_natAbs.mp (by rw [Int.natAbs_natCast]; exact Nat.gcd_dvd_right _ _)
theorem dvd_gcdI {e a b : Int} (h1 : e ∣ a) (h2 : e ∣ b) : e ∣ ((Nat.gcd a.natAbs b.natAbs : Nat) : Int) := Int.natAbs_dvd_natAbs.mp (by rw [Int.natAbs_natCast]; exact Nat.dvd_gcd (Int.natAbs_dvd_natAbs.mpr h1) (Int.natAbs_dvd_natAbs.mpr h2))
theorem gcdL_dvd : ∀ (zs : List Int) (c : Int), gcdL c zs ∣ c ∧ ∀ z ∈ zs, gcdL c zs ∣ z
  | [], c => ⟨Int.dvd_refl _, by simp⟩
  | z :: zs, c => by
    obtain ⟨h1, h2⟩ := gcdL_dvd zs ((Nat.gcd c.natAbs z.natAbs : Nat) : Int)
    refine ⟨Int.dvd_trans h1 (gcd_dvdL _ _), fun y hy => ?_⟩
    rcases List.mem_cons.mp hy with rfl | hy
    · exact Int.dvd_trans h1 (gcd_dvdR _ _)
    · exact h2 y hy
theorem gcdL_gr {e : Int} : ∀ (zs : List Int) (c : Int), e ∣ c → (∀ z ∈ zs, e ∣ z) → e ∣ gcdL c zs
  | [], c, h, _ => h
  | z :: zs, c, h, hz => gcdL_gr zs _ (dvd_gcdI h (hz z (by simp))) fun y hy => hz y (by simp [hy])
theorem gcdL_nn : ∀ (zs : List Int) (c : Int), 0 ≤ c → 0 ≤ gcdL c zs
  | [], c, h => h
  | z :: zs, c, _ => gcdL_nn zs _ (by omega)
def smB (x : Int) : Bool := decide (x.natAbs < 2 ^ 1500)
/-- an inner poly as it stands, its sizes being small -/
def ipOk (p : Ip) : Bool := decide (p.1.length < 30) && p.1.all smB && smB p.2 && decide (p.2 ≠ 0) && (match p.1.getLast? with | none => decide (p.2 = 1) | some n => decide (n ≠ 0))
def subQ (h : Int) : List Int → Nat → List Int → List Int
  | z, _, [] => z
  | z, o, y :: ms => subQ h (z.set o (z.getD o 0 - h * y)) (o + 1) ms
theorem subQ_len (h : Int) : ∀ (ms z : List Int) (o : Nat), (subQ h z o ms).length = z.length
  | [], z, o => rfl
  | y :: ms, z, o => by rw [subQ, subQ_len h ms, List.length_set]
theorem subQ_app (h y : Int) : ∀ (ms z : List Int) (o : Nat), subQ h z o (ms ++ [y]) = (subQ h z o ms).set (o + ms.length) ((subQ h z o ms).getD (o + ms.length) 0 - h * y)
  | [], z, o => rfl
  | m :: ms, z, o => by
    rw [List.cons_append, subQ, subQ_app h y ms, subQ, List.length_cons, show o + 1 + ms.length = o + (ms.length + 1) by omega]
def gI2 (a b : Int) : Int := ((Nat.gcd a.natAbs b.natAbs : Nat) : Int)
def upQ (lead : Int) (r : List Int) : Int := lead / gI2 (r.getLastD 0) lead
def hdQ (lead : Int) (r : List Int) : Int := r.getLastD 0 / gI2 (r.getLastD 0) lead
def mulQ (u : Int) (r : List Int) : List Int := if u = 1 then r else r.map (u * ·)
def restQ (low : List Int) (lead : Int) (r : List Int) : List Int := subQ (hdQ lead r) (mulQ (upQ lead r) r.dropLast) (r.dropLast.length - low.length) low
def partQ (lead : Int) (r p : List Int) : List Int := mulQ (upQ lead r) p ++ [hdQ lead r]
def scalQ (lead : Int) (r : List Int) (s : Int) : Int := if upQ lead r = 1 then s else s * upQ lead r
def divGo (low : List Int) (lead : Int) : Nat → List Int → List Int → Int → List Int × List Int × Int
  | 0, r, p, s => (r, p, s)
  | k + 1, r, p, s => if r.length ≤ low.length then (r, p, s) else divGo low lead k (restQ low lead r) (partQ lead r p) (scalQ lead r s)
def divB (low : List Int) (lead : Int) : Nat → List Int → List Int → Int → Bool
  | 0, r, p, s => r.all smB && p.all smB && smB s && decide (s ≠ 0)
  | k + 1, r, p, s => (r.all smB && p.all smB && smB s && decide (s ≠ 0)) && (if r.length ≤ low.length then true else divB low lead k (restQ low lead r) (partQ lead r p) (scalQ lead r s))
def divQ (p q : Ip) : Ip × Ip :=
  let t := divGo q.1.dropLast (q.1.getLastD 0) p.1.length p.1 [] p.2
  (stQ (t.2.1.reverse.map (· * q.2)) t.2.2, stQ t.1 t.2.2)
def divOk (p q : Ip) : Bool := ipOk p && ipOk q && decide (q.1 ≠ []) && divB q.1.dropLast (q.1.getLastD 0) p.1.length p.1 [] p.2
def monicQ (p : Ip) : Ip := if p.1 = [] then p else stQ p.1 (p.1.getLastD 0)
def slopeL (ns : List Int) : List Int := ((List.range ns.length).map fun (k : Nat) => (k : Int) * ns.getD k 0).drop 1
def slopeQ (p : Ip) : Ip := stQ (slopeL p.1) p.2
def comQ : Nat → Ip → Ip → Ip
  | 0, r, _ => r
  | k + 1, r, a => if a.1 = [] then monicQ r else comQ k a (monicQ (divQ r a).2)
def comB : Nat → Ip → Ip → Bool
  | 0, _, _ => false
  | k + 1, r, a => ipOk r && ipOk a && (if a.1 = [] then true else divOk r a && ipOk (divQ r a).2 && comB k a (monicQ (divQ r a).2))
def rstQ (p : Ip) : Ip := stQ (p.1.map fun n => -n / gcdL 0 p.1) 1
def chainGo : Nat → Ip → Ip → List Ip
  | 0, _, _ => []
  | k + 1, r, a => if a.1.length ≤ 1 then [] else rstQ (divQ r a).2 :: chainGo k a (rstQ (divQ r a).2)
def chainGB : Nat → Ip → Ip → Bool
  | 0, _, _ => false
  | k + 1, r, a => ipOk r && ipOk a && decide (a.1 ≠ []) && (if a.1.length ≤ 1 then true else divOk r a && ipOk (divQ r a).1 && ipOk (divQ r a).2 && decide ((divQ r a).2.1 ≠ []) && chainGB k a (rstQ (divQ r a).2))
def comOf (p : Ip) : Ip := comQ 30 p (slopeQ p)
def chainRow (p : Ip) : List Ip := (divQ p (comOf p)).1 :: (divQ (slopeQ p) (comOf p)).1 :: chainGo 30 (divQ p (comOf p)).1 (divQ (slopeQ p) (comOf p)).1
def chainB (p : Ip) : Bool := ipOk p && decide (1 < p.1.length) && ipOk (slopeQ p) && comB 30 p (slopeQ p) && ipOk (comOf p) && decide ((comOf p).1 ≠ []) && divOk p (comOf p) && divOk (slopeQ p) (comOf p) && chainGB 30 (divQ p (comOf p)).1 (divQ (slopeQ p) (comOf p)).1
/-! signs -/
def sgn (n : Int) : Int := if n = 0 then 0 else if n < 0 then -1 else 1
def evalGo (a b : Int) : List Int → Int → Int → Int
  | [], v, _ => v
  | n :: l, v, t => evalGo a b l (v * a + n * t) (t * b)
def evalB (a b : Int) : List Int → Int → Int → Bool
  | [], v, t => smB v && smB t
  | n :: l, v, t => smB v && smB t && evalB a b l (v * a + n * t) (t * b)
def signQ (p : Ip) (e : Option (Int × Int)) (far : Int) : Int := match e with
  | none => (if (p.1.length : Int) % 2 = 0 then far else 1) * sgn (p.1.getLastD 0)
  | some (a, b) => sgn (evalGo a b p.1.reverse 0 1)
def signB (p : Ip) (e : Option (Int × Int)) : Bool := ipOk p && decide (p.1 ≠ []) && (match e with
  | none => true
  | some (a, b) => smB a && smB b && evalB a b p.1.reverse 0 1)
def chGo (e : Option (Int × Int)) (far : Int) : List Ip → Int → Int → Int
  | [], m, _ => m
  | p :: l, m, t => if signQ p e far = 0 then chGo e far l m t else chGo e far l (if signQ p e far * t = -1 then m + 1 else m) (signQ p e far)
def chQ (rs : List Ip) (e : Option (Int × Int)) (far : Int) : Int := chGo e far rs 0 0
theorem comp_ETq {K : PySem.W.Frag} {a : Addr} {xs : List V} {g : TG} {tt : TT} {te : TE} {vs : List Nat} {σ : St} {H1 : Hp} {Q : VK} {outs : Nat → Option V} (hT : SqT K H1 a xs) (hn : xs.length < 2 ^ 22)
    (turn : ∀ i x T H', xs[i]? = some x → Same H1 H' → H' T = some (.tup [.int (i : Nat), x]) → ∀ Qo : Option V → Hp → Prop, (∀ H2, Same H' H2 → Qo (outs i) H2) → g (.ref T) (wipe σ vs) H' fun σ2 H2 => wipe σ2 vs = wipe σ vs ∧ tt σ2 H2 fun b H3 => if b = true then te σ2 H3 fun y H4 => Qo (some y) H4 else Qo none H3)
    (fin : ∀ D H', H1 D = none → Same H1 H' → H' D = some (.lst (outL outs xs.length)) → Q (.ref D) H') : LcW (IteT K a) H1 g tt te vs σ Q := fun D hD => by
  refine ⟨fun i m H => m = xs.length - i ∧ i ≤ xs.length ∧ Same H1 H ∧ H D = some (.lst (outL outs i)), ⟨xs.length, by simp, Nat.zero_le _, same_upd hD, upd_same⟩, ?_⟩
  rintro i m H ⟨rfl, hi, s, hL⟩
  by_cases hlt : i < xs.length
  · refine .inr ⟨⟨xs, _, sqT_up hT s, List.getElem?_eq_getElem hlt⟩, fun H => Same H1 H ∧ H D = some (.lst (outL outs (i + 1))), fun H' p' => ⟨xs.length - (i + 1), by omega, rfl, hlt, p'⟩, fun v H' y => ?_⟩
    obtain ⟨T, x, rfl, hTn, rfl, f⟩ := y
    exact turn i x T _ (f xs (sqT_up hT s)) (s.trans (same_upd hTn)) upd_same (OutOf D fun H => Same H1 H ∧ H D = some (.lst (outL outs (i + 1)))) fun H2 s2 => out_ok hD outs hlt hn ⟨s.trans (same_upd hTn), same_upd hTn _ _ hL⟩ s2
  · obtain rfl : i = xs.length := by omega
    exact .inl ⟨⟨xs, sqT_up hT s, rfl⟩, fin D H hD s hL⟩
/-! ### is_int -/
theorem sc_is_int : FnScope ["value"] ["value"] (defScope s_is_int) := ⟨rfl, rfl, rfl, by decide +kernel, rfl, by decide +kernel, by decide +kernel⟩
def sp_is_int (K : PySem.W.Frag) : Sp := fun vs H Q _ => ∃ v : V, vs = [v] ∧ Kn H v ∧ Q (.bl (isI v)) H
theorem len_is_int {K : PySem.W.Frag} {vs : List V} {H : Hp} {Q : VK} {E : XK} (h : sp_is_int K vs H Q E) : vs.length = ["value"].length := by
  obtain ⟨_, rfl, _⟩ := h
  rfl
def t_is_int (K : PySem.W.Frag) : TS := (tRet (tAndV (tCB (rIsi K) (tCons (tVar 0) (tCons (tC (.ty "int")) tNil))) (tNotV (tCB (rIsi K) (tCons (tVar 0) (tCons (tC (.ty "bool")) tNil))))))
theorem pure_is_int (K : PySem.W.Frag) (vs : List V) (H : Hp) (Q : VK) (E : XK) (h : sp_is_int K vs H Q E) : t_is_int K { nx := fun _ H' => Q .non H', rt := Q } (start ["value"] vs) H := by
  obtain ⟨v, rfl, hk, hq⟩ := h
  unfold t_is_int
  walk_at "z"
  refine isi_kn_int hk ?_
  walk_at "z"
  by_cases h1 : (isI v || isB v) = true
  · rw [if_pos h1]
    refine isi_kn_bool hk ?_
    walk_at "z"
    have e : (!isB v) = isI v := by cases v <;> simp_all [isI, isB]
    rw [e]
    exact hq
  · rw [if_neg h1]
    have e : isI v = false := by cases v <;> simp_all [isI, isB]
    rw [e] at hq
    exact hq
theorem ok_is_int {P : Program} {w : World} {K : PySem.W.Frag} {mg : Str → Option Value} {base : Heap} (T : Tx K mg) : Okk P w K mg base 1 "is_int" ["value"] (sp_is_int K) := by
  have hf_bool := T.n_bool
  have hf_int := T.n_int
  have hf_isinstance := T.n_isinstance
  obtain ⟨fd, F⟩ := T.f_is_int
  refine ⟨fd, F.ok sc_is_int (fun vs H Q E h => len_is_int h) (fun cdv A outer s H vs Q E hr h => ⟨t_is_int K, PSs.nox ?_, pure_is_int K vs H Q E h⟩), F.bindsN (fun _ _ _ _ _ _ us hl => match us, hl with | [_], _ => rfl), T.g_is_int, F.kp⟩
  exact (pss_one (ps_ret (pe_and (pe_callB call_isi (by rfl) hf_isinstance (by decide +kernel) (pa_cons (pv 0) (pa_cons (pe_bltn (v := .ty "int") rfl hf_int (by decide +kernel) rfl) pa_nil))) (pe_one (pe_not (pe_callB call_isi (by rfl) hf_isinstance (by decide +kernel) (pa_cons (pv 0) (pa_cons (pe_bltn (v := .ty "bool") rfl hf_bool (by decide +kernel) rfl) pa_nil))))))))
/-! ### bezout -/
theorem sc_bezout : FnScope ["one", "other", "rest", "after", "u", "later_u", "v", "later_v", "often"] ["one", "other"] (defScope s_bezout) := ⟨rfl, rfl, rfl, by decide +kernel, rfl, by decide +kernel, by decide +kernel⟩
/-- sizes that can still be divided by -/
def sp_bezout (K : PySem.W.Frag) : Sp := fun vs H Q _ => ∃ a b : Int, vs = [.int a, .int b] ∧ 0 ≤ a ∧ 0 ≤ b ∧ Sz 8000 a ∧ Sz 8000 b ∧ ∀ p u v H', Same H H' → a * u + b * v = ((Nat.gcd a.natAbs b.natAbs : Nat) : Int) → Sz 8000 u → H' p = some (.tup [.int ((Nat.gcd a.natAbs b.natAbs : Nat) : Int), .int u, .int v]) → Q (.ref p) H'
theorem len_bezout {K : PySem.W.Frag} {vs : List V} {H : Hp} {Q : VK} {E : XK} (h : sp_bezout K vs H Q E) : vs.length = ["one", "other"].length := by
  obtain ⟨_, _, rfl, _⟩ := h
  rfl
def t_bezout_w1_c (K : PySem.W.Frag) : TT := (tTest (tOp rNe (tVar 3) (tC (.int 0))))
def t_bezout_w1_b (K : PySem.W.Frag) : TS := (tSeq (tAsg (tOp rDivZ (tVar 2) (tVar 3)) (gName 8))
  (tSeq (tPar 2 3 (tCons (tVar 3) (tCons (tOp rSub (tVar 2) (tOp rMulU (tVar 8) (tVar 3))) tNil)))
  (tSeq (tPar 4 5 (tCons (tVar 5) (tCons (tOp rSub (tVar 4) (tOp rMulU (tVar 8) (tVar 5))) tNil)))
  (tPar 6 7 (tCons (tVar 7) (tCons (tOp rSub (tVar 6) (tOp rMulU (tVar 8) (tVar 7))) tNil))))))
def t_bezout (K : PySem.W.Frag) : TS := (tSeq (tPar 2 3 (tCons (tVar 0) (tCons (tVar 1) tNil)))
  (tSeq (tAsg (tTup (tCons (tC (.int 1)) (tCons (tC (.int 0)) tNil))) (gTup K 2 (gCons (gName 4) (gCons (gName 5) gNil))))
  (tSeq (tAsg (tTup (tCons (tC (.int 0)) (tCons (tC (.int 1)) tNil))) (gTup K 2 (gCons (gName 6) (gCons (gName 7) gNil))))
  (tSeq (tWhile (t_bezout_w1_c K) (t_bezout_w1_b K))
  (tSeq (tIfS (tTest (tOp rLtI (tVar 2) (tC (.int 0)))) (tRet (tTup (tCons (tUn rNeg (tVar 2)) (tCons (tUn rNeg (tVar 4)) (tCons (tUn rNeg (tVar 6)) tNil))))) tNext)
  (tRet (tTup (tCons (tVar 2) (tCons (tVar 4) (tCons (tVar 6) tNil))))))))))
structure Bz (a b : Int) (r t u x v y : Int) (s : Int) : Prop where
  r0 : 0 ≤ r
  t0 : 0 ≤ t
  g : Nat.gcd r.natAbs t.natAbs = Nat.gcd a.natAbs b.natAbs
  e1 : a * u + b * v = r
  e2 : a * x + b * y = t
  sg : s = 1 ∨ s = -1
  u0 : 0 ≤ s * u
  x0 : 0 ≤ -(s * x)
  k : r * -(s * x) + t * (s * u) = b
theorem Bz.step {a b r t u x v y s : Int} (h : Bz a b r t u x v y s) (ht : t ≠ 0) : Bz a b t (r - r / t * t) x (u - r / t * x) y (v - r / t * y) (-s) := by
  have t1 : 0 < t := by have := h.t0; omega
  have er : r - r / t * t = r % t := by
    have := Int.emod_def r t
    rw [this, Int.mul_comm]
  have q0 : 0 ≤ r / t := Int.ediv_nonneg h.r0 h.t0
  refine ⟨h.t0, by rw [er]; exact Int.emod_nonneg _ ht, ?_, h.e2, ?_, by rcases h.sg with e | e <;> rw [e] <;> decide, ?_, ?_, ?_⟩
  · rw [er, ← h.g]
    obtain ⟨R, rfl⟩ : ∃ R : Nat, r = R := ⟨r.toNat, by have := h.r0; omega⟩
    obtain ⟨T, rfl⟩ : ∃ T : Nat, t = T := ⟨t.toNat, by omega⟩
    rw [← Int.natCast_emod, Int.natAbs_natCast, Int.natAbs_natCast, Int.natAbs_natCast, Nat.gcd_comm T (R % T), ← Nat.gcd_rec, Nat.gcd_comm]
  · have h1 := h.e1
    have h2 := h.e2
    generalize r / t = q at *
    rw [← h1, ← h2, Int.mul_sub, Int.mul_sub, Int.mul_add, Int.mul_left_comm a q x, Int.mul_left_comm b q y]
    omega
  · have := h.x0
    rw [Int.neg_mul]
    exact this
  · have h1 := h.u0
    have h2 := Int.mul_nonneg q0 h.x0
    generalize r / t = q at *
    have e : -(-s * (u - q * x)) = s * u + q * -(s * x) := by
      rw [Int.neg_mul, Int.neg_neg, Int.mul_sub, Int.mul_neg, Int.mul_left_comm s q x]
      omega
    rw [e]
    omega
  · have hk := h.k
    generalize r / t = q at *
    have e : -(-s * (u - q * x)) = s * u + q * -(s * x) := by
      rw [Int.neg_mul, Int.neg_neg, Int.mul_sub, Int.mul_neg, Int.mul_left_comm s q x]
      omega
    have e3 : -s * x = -(s * x) := Int.neg_mul s x
    rw [e, e3]
    generalize -(s * x) = X at *
    generalize s * u = U at *
    rw [← hk, Int.mul_add, Int.sub_mul, Int.mul_left_comm t q X, Int.mul_assoc q t X]
    omega
theorem s_abs {s x : Int} (h : s = 1 ∨ s = -1) : (s * x).natAbs = x.natAbs := by rcases h with e | e <;> rw [e] <;> simp
theorem sz_le {n : Nat} {x y : Int} (h : Sz n x) (h2 : y.natAbs ≤ x.natAbs) : Sz n y := Nat.lt_of_le_of_lt h2 h
theorem le_mulI {x y z : Int} (h : 0 ≤ x) (h1 : 1 ≤ y) (h2 : x * y ≤ z) : x ≤ z := by
  have := Int.mul_le_mul_of_nonneg_left h1 h
  omega
theorem pure_bezout (K : PySem.W.Frag) (vs : List V) (H : Hp) (Q : VK) (E : XK) (h : sp_bezout K vs H Q E) : t_bezout K { nx := fun _ H' => Q .non H', rt := Q } (start ["one", "other", "rest", "after", "u", "later_u", "v", "later_v", "often"] vs) H := by
  obtain ⟨a, b, rfl, ha, hb, sa, sb, hq⟩ := h
  unfold t_bezout
  walk_at "z"
  refine ⟨by decide, fun p hp => ⟨_, sqT_of upd_same, rfl, ?_⟩⟩
  walk_at "z"
  refine ⟨by decide, fun p2 hp2 => ⟨_, sqT_of upd_same, rfl, ?_⟩⟩
  walk_at "z"
  have sH := (same_upd (o := .tup [V.int 1, V.int 0]) hp).trans (same_upd (o := .tup [V.int 0, V.int 1]) hp2)
  revert sH
  generalize upd (upd H p (.tup [V.int 1, V.int 0])) p2 (.tup [V.int 0, V.int 1]) = H0
  intro sH
  have z0 : Sz 8000 0 := Nat.pow_pos (by decide)
  have z1 : Sz 8000 1 := Nat.one_lt_two_pow (by decide)
  refine while_of (fun μ σ H' => ∃ (r t u x v y s : Int) (o : Option V), σ = [some (.int a), some (.int b), some (.int r), some (.int t), some (.int u), some (.int x), some (.int v), some (.int y), o] ∧ H' = H0 ∧ Bz a b r t u x v y s ∧ Sz 8000 r ∧ Sz 8000 t ∧ Sz 8000 u ∧ Sz 8000 x ∧ Sz 16001 y ∧ t ≤ b ∧ μ = t.toNat) b.toNat ⟨a, b, 1, 0, 0, 1, 1, _, rfl, rfl, ⟨ha, hb, rfl, by omega, by omega, .inl rfl, by decide, by decide, by omega⟩, sa, sb, z1, z0, Nat.lt_of_lt_of_le z1 (Nat.pow_le_pow_right (by decide) (by decide)), Int.le_refl b, rfl⟩ ?_
  rintro μ σ H' ⟨r, t, u, x, v, y, s, o, rfl, rfl, B, sr, st, su, sx, sy, tb, rfl⟩ N hN hN2
  unfold t_bezout_w1_c t_bezout_w1_b
  walk_at "z"
  by_cases h0 : t = 0
  · subst h0
    have hg : r = ((Nat.gcd a.natAbs b.natAbs : Nat) : Int) := by
      have := B.g
      rw [Int.natAbs_zero, Nat.gcd_zero_right] at this
      have := B.r0
      omega
    have hn : ¬ r < 0 := by have := B.r0; omega
    have := B.e1
    walk_at "z"
    rw [if_neg hn]
    refine ⟨by decide, fun p hp => ?_⟩
    have sp := same_upd (o := .tup [V.int r, V.int u, V.int v]) hp
    refine hq p u v _ (sH.trans sp) ?_ su ?_
    · rw [← hg]; exact B.e1
    · rw [upd_same, hg]
  · have t1 : 0 < t := by have := B.t0; omega
    have B2 := B.step h0
    have q0 : 0 ≤ r / t := Int.ediv_nonneg B.r0 B.t0
    have qr : r / t ≤ r := Int.ediv_le_self _ B.r0
    have sq : Sz 8000 (r / t) := sz_le sr (by omega)
    have fd : r.fdiv t = r / t := Int.fdiv_eq_ediv_of_nonneg _ B.t0
    have er : r - r / t * t = r % t := by
      have := Int.emod_def r t
      rw [this, Int.mul_comm]
    have et : r % t < t := Int.emod_lt_of_pos _ t1
    have et0 : 0 ≤ r % t := Int.emod_nonneg _ h0
    have st2 : Sz 8000 (r - r / t * t) := sz_le st (by omega)
    have hb1 : b ≠ 0 := by omega
    have sx2 : Sz 8000 (u - r / t * x) := by
      have h2 := B2.k
      have h5 := B2.x0
      have h6 := Int.mul_nonneg B2.t0 B2.u0
      have h7 : -(-s * (u - r / t * x)) * t ≤ b := by rw [Int.mul_comm]; omega
      have h8 := le_mulI h5 (show 1 ≤ t by omega) h7
      have h9 := s_abs (x := u - r / t * x) B2.sg
      refine sz_le sb ?_
      omega
    have sy2 : Sz 16001 (v - r / t * y) := by
      have h2 := B2.e2
      have h3 : (b * (v - r / t * y)).natAbs ≤ t.natAbs + a.natAbs * (u - r / t * x).natAbs := by
        rw [← Int.natAbs_mul]
        omega
      have h4 : (v - r / t * y).natAbs ≤ (b * (v - r / t * y)).natAbs := by
        rw [Int.natAbs_mul]
        exact Nat.le_mul_of_pos_left _ (by omega)
      have h5 : a.natAbs * (u - r / t * x).natAbs ≤ 2 ^ 8000 * 2 ^ 8000 := Nat.mul_le_mul (Nat.le_of_lt sa) (Nat.le_of_lt sx2)
      rw [← Nat.pow_add] at h5
      have h6 : 2 ^ 8000 ≤ 2 ^ 16000 := Nat.pow_le_pow_right (by decide) (by decide)
      have h7 : (2 : Nat) ^ 16001 = 2 ^ 16000 + 2 ^ 16000 := by rw [show 16001 = 16000 + 1 from rfl, Nat.pow_succ]; omega
      have h8 : t.natAbs < 2 ^ 8000 := st
      show (v - r / t * y).natAbs < 2 ^ 16001
      rw [h7]
      generalize 2 ^ 16000 = P at *
      generalize 2 ^ 8000 = P2 at *
      omega
    rw [if_pos h0, fd]
    have lt8 : t.natAbs.log2 < 9000 := Nat.lt_of_lt_of_le (PySem.Flt.log2_lt_of (k := 8000) (by decide) st) (by decide)
    refine ⟨N, hN2, ⟨h0, lt8⟩, mulW (a := 8000) (b := 8000) sq st (by decide) (by decide) (by decide), mulW (a := 8000) (b := 8000) sq sx (by decide) (by decide) (by decide), mulW (a := 8000) (b := 16001) sq sy (by decide) (by decide) (by decide), ?_⟩
    refine hN (r % t).toNat _ _ (by omega) ⟨_, _, _, _, _, _, _, _, rfl, rfl, B2, st, st2, sx, sx2, sy2, by omega, by rw [er]⟩
theorem ok_bezout {P : Program} {w : World} {K : PySem.W.Frag} {mg : Str → Option Value} {base : Heap} (T : Tx K mg) : Okk P w K mg base 1 "bezout" ["one", "other"] (sp_bezout K) := by
  obtain ⟨fd, F⟩ := T.f_bezout
  refine ⟨fd, F.ok sc_bezout (fun vs H Q E h => len_bezout h) (fun cdv A outer s H vs Q E hr h => ⟨t_bezout K, PSs.nox ?_, pure_bezout K vs H Q E h⟩), F.bindsN (fun _ _ _ _ _ _ us hl => match us, hl with | [_, _], _ => rfl), T.g_bezout, F.kp⟩
  exact (pss_cons (ps_par (i := 2) (j := 3) rfl sc_bezout.nd rfl rfl (by decide) rfl rfl (pa_cons (pv 0) (pa_cons (pv 1) pa_nil)) (by rfl))
      (pss_cons (ps_asg (pe_tup (pa_cons pe_int (pa_cons pe_int pa_nil))) (pg_tup rfl (pgs_cons (pg_name (i := 4) sc_bezout.nd rfl (by first | exact Or.inl rfl | exact Or.inr rfl)) (pgs_cons (pg_name (i := 5) sc_bezout.nd rfl (by first | exact Or.inl rfl | exact Or.inr rfl)) pgs_nil))))
      (pss_cons (ps_asg (pe_tup (pa_cons pe_int (pa_cons pe_int pa_nil))) (pg_tup rfl (pgs_cons (pg_name (i := 6) sc_bezout.nd rfl (by first | exact Or.inl rfl | exact Or.inr rfl)) (pgs_cons (pg_name (i := 7) sc_bezout.nd rfl (by first | exact Or.inl rfl | exact Or.inr rfl)) pgs_nil))))
      (pss_cons (ps_while PassesOwn.never (pt_cmpR op_ne (pv 3) pe_int (nomark _)) (pss_cons (ps_set (i := 8) sc_bezout.nd rfl (by first | exact Or.inl rfl | exact Or.inr rfl) (pe_op op_fdivZ (pv 2) (pv 3)))
      (pss_cons (ps_par (i := 2) (j := 3) rfl sc_bezout.nd rfl rfl (by decide) rfl rfl (pa_cons (pv 3) (pa_cons (pe_op op_sub (pv 2) (pe_op op_mulU (pv 8) (pv 3))) pa_nil)) (by rfl))
      (pss_cons (ps_par (i := 4) (j := 5) rfl sc_bezout.nd rfl rfl (by decide) rfl rfl (pa_cons (pv 5) (pa_cons (pe_op op_sub (pv 4) (pe_op op_mulU (pv 8) (pv 5))) pa_nil)) (by rfl))
      (pss_one (ps_par (i := 6) (j := 7) rfl sc_bezout.nd rfl rfl (by decide) rfl rfl (pa_cons (pv 7) (pa_cons (pe_op op_sub (pv 6) (pe_op op_mulU (pv 8) (pv 7))) pa_nil)) (by rfl)))))))
      (pss_cons (ps_if (pt_cmpR op_lt (pv 2) pe_int (nomark _)) (pss_one (ps_ret (pe_tup (pa_cons (pe_un un_neg (pv 2)) (pa_cons (pe_un un_neg (pv 4)) (pa_cons (pe_un un_neg (pv 6)) pa_nil)))))) pss_nil)
      (pss_one (ps_ret (pe_tup (pa_cons (pv 2) (pa_cons (pv 4) (pa_cons (pv 6) pa_nil)))))))))))
/-! ### common_multiple -/
theorem sc_common_multiple : FnScope ["numbers", "result", "number"] ["numbers"] (defScope s_common_multiple) := ⟨rfl, rfl, rfl, by decide +kernel, rfl, by decide +kernel, by decide +kernel⟩
theorem le_mul1 {a b : Int} (h : 0 ≤ a) (h1 : 1 ≤ b) : a ≤ a * b := by
  have := Int.mul_le_mul_of_nonneg_left h1 h
  omega
def prI : List Int → Int
  | [] => 1
  | n :: l => n * prI l
theorem prI_append (l : List Int) (n : Int) : prI (l ++ [n]) = prI l * n := by
  induction l with
  | nil => simp [prI]
  | cons x l ih => simp only [List.cons_append, prI, ih, Int.mul_assoc]
theorem prI_pos : ∀ {l : List Int}, (∀ n ∈ l, 1 ≤ n) → 1 ≤ prI l
  | [], _ => by simp [prI]
  | n :: l, h => by
    have h1 := h n (by simp)
    have h2 := prI_pos (l := l) (fun m hm => h m (by simp [hm]))
    exact Int.le_trans h1 (le_mul1 (by omega) h2)
theorem prI_take {l : List Int} (h : ∀ n ∈ l, 1 ≤ n) (i : Nat) : prI (l.take i) ≤ prI l := by
  have h2 : prI l = prI (l.take i) * prI (l.drop i) := by
    conv => lhs; rw [← List.take_append_drop i l]
    generalize l.take i = a
    generalize l.drop i = b
    induction a with
    | nil => simp [prI]
    | cons x a ih => simp only [List.cons_append, prI, ih, Int.mul_assoc]
  rw [h2]
  exact le_mul1 (by have := prI_pos (l := l.take i) (fun n hn => h n (List.mem_of_mem_take hn)); omega) (prI_pos (fun n hn => h n (List.mem_of_mem_drop hn)))
theorem gcd_le1 {r n : Int} (hr : 1 ≤ r) (hn : 1 ≤ n) : 1 ≤ ((Nat.gcd r.natAbs n.natAbs : Nat) : Int) ∧ ((Nat.gcd r.natAbs n.natAbs : Nat) : Int) ≤ n := by
  have h1 : 0 < Nat.gcd r.natAbs n.natAbs := Nat.gcd_pos_of_pos_left _ (by omega)
  have h2 : Nat.gcd r.natAbs n.natAbs ≤ n.natAbs := Nat.le_of_dvd (by omega) (Nat.gcd_dvd_right _ _)
  omega
theorem lcm_step {r n : Int} (hr : 1 ≤ r) (hn : 1 ≤ n) : ∃ u : Int, (1 ≤ u ∧ u ≤ r) ∧ r / ((Nat.gcd r.natAbs n.natAbs : Nat) : Int) = u ∧ r ∣ u * n ∧ u ∣ r := by
  have hg := gcd_le1 hr hn
  have d1 : ((Nat.gcd r.natAbs n.natAbs : Nat) : Int) ∣ r := Int.natAbs_dvd_natAbs.mp (by rw [Int.natAbs_natCast]; exact Nat.gcd_dvd_left _ _)
  have d2 : ((Nat.gcd r.natAbs n.natAbs : Nat) : Int) ∣ n := Int.natAbs_dvd_natAbs.mp (by rw [Int.natAbs_natCast]; exact Nat.gcd_dvd_right _ _)
  generalize ((Nat.gcd r.natAbs n.natAbs : Nat) : Int) = g at *
  obtain ⟨u, rfl⟩ := d1
  obtain ⟨v, rfl⟩ := d2
  have u1 : 1 ≤ u := by
    rcases Int.lt_or_le 0 u with h | h
    · omega
    · have := Int.mul_nonpos_of_nonneg_of_nonpos (show (0 : Int) ≤ g by omega) h
      omega
  refine ⟨u, ⟨u1, ?_⟩, ?_, ⟨v, ?_⟩, Int.dvd_mul_left _ _⟩
  · rw [Int.mul_comm]; exact le_mul1 (by omega) hg.1
  · rw [Int.mul_ediv_cancel_left _ (by omega)]
  · rw [Int.mul_left_comm, Int.mul_assoc]
def sp_common_multiple (K : PySem.W.Frag) : Sp := fun vs H Q _ => ∃ (a : Addr) (ns : List Int), vs = [.ref a] ∧ SqL K H a (ns.map V.int) ∧ (∀ n ∈ ns, 1 ≤ n) ∧ Sz 8000 (prI ns) ∧ ∀ L : Int, 1 ≤ L → (∀ n ∈ ns, n ∣ L) → L ≤ prI ns → Q (.int L) H
theorem len_common_multiple {K : PySem.W.Frag} {vs : List V} {H : Hp} {Q : VK} {E : XK} (h : sp_common_multiple K vs H Q E) : vs.length = ["numbers"].length := by
  obtain ⟨_, _, rfl, _⟩ := h
  rfl
def t_common_multiple_f1_b (K : PySem.W.Frag) : TS := (tAsg (tOp rMulU (tOp rDivU (tVar 1) (tCB rGcd (tCons (tVar 1) (tCons (tVar 2) tNil)))) (tVar 2)) (gName 1))
def t_common_multiple (K : PySem.W.Frag) : TS := (tSeq (tAsg (tC (.int 1)) (gName 1))
  (tSeq (tFor (iList K (tVar 0)) (gName 2) (t_common_multiple_f1_b K))
  (tRet (tVar 1))))
theorem pure_common_multiple (K : PySem.W.Frag) (vs : List V) (H : Hp) (Q : VK) (E : XK) (h : sp_common_multiple K vs H Q E) : t_common_multiple K { nx := fun _ H' => Q .non H', rt := Q } (start ["numbers", "result", "number"] vs) H := by
  obtain ⟨a, ns, rfl, ha, h1, hs, hq⟩ := h
  unfold t_common_multiple
  walk_at "z"
  refine ⟨a, rfl, ⟨_, ha⟩, for_L (xs := ns.map V.int) (fun i σ H' => ∃ r o, σ = [some (.ref a), some (.int r), o] ∧ H' = H ∧ 1 ≤ r ∧ (∀ n ∈ ns.take i, n ∣ r) ∧ r ≤ prI (ns.take i)) ⟨1, none, rfl, rfl, by omega, by simp, by simp [prI]⟩ (fun i σ H' _ h => by obtain ⟨_, _, _, rfl, _⟩ := h; exact ha) (fun i x σ H' hx h N hN => ?_) (fun σ H' h => ?_)⟩
  · obtain ⟨r, o, rfl, rfl, hr, hd, hle⟩ := h
    rw [List.getElem?_map] at hx
    obtain ⟨n, hn, rfl⟩ := Option.map_eq_some_iff.mp hx
    have et : ns.take (i + 1) = ns.take i ++ [n] := by rw [List.take_succ, hn]; rfl
    have hm : n ∈ ns := List.mem_of_getElem? hn
    have n1 := h1 n hm
    have hle2 : prI (ns.take i) * n ≤ prI ns := by rw [← prI_append, ← et]; exact prI_take h1 _
    have p1 : 1 ≤ prI (ns.take i) := prI_pos fun m hm => h1 m (List.mem_of_mem_take hm)
    have nle : n ≤ prI ns := Int.le_trans (by rw [Int.mul_comm]; exact le_mul1 (by omega) p1) hle2
    have rle : r ≤ prI ns := Int.le_trans hle (Int.le_trans (le_mul1 (by omega) n1) hle2)
    obtain ⟨u, u0, eu, em, md⟩ := lcm_step hr n1
    have szr : Sz 8000 r := sz_le hs (by omega)
    have szn : Sz 8000 n := sz_le hs (by omega)
    have szu : Sz 8000 u := sz_le szr (by omega)
    unfold t_common_multiple_f1_b
    walk_at "z"
    rw [eu]
    refine ⟨?_, mulW szu szn (by decide) (by decide) (by decide), hN _ _ ⟨u * n, _, rfl, rfl, Int.le_trans n1 (by rw [Int.mul_comm]; exact le_mul1 (by omega) u0.1), fun m hm => ?_, ?_⟩⟩
    · have hg := gcd_le1 hr n1
      exact wide_div (b := 8000) (by omega) (Nat.lt_of_le_of_lt (by omega) szn) (by decide) (by decide)
    · rw [et, List.mem_append] at hm
      rcases hm with hm | hm
      · exact Int.dvd_trans (hd m hm) em
      · rw [List.mem_singleton.mp hm]; exact Int.dvd_mul_left _ _
    · rw [et, prI_append]
      exact Int.le_trans (Int.mul_le_mul_of_nonneg_right u0.2 (by omega)) (Int.mul_le_mul_of_nonneg_right hle (by omega))
  · obtain ⟨r, o, rfl, rfl, hr, hd, hle⟩ := h
    walk_at "z"
    rw [List.length_map, List.take_length] at hd hle
    exact hq r hr hd hle
theorem ok_common_multiple {P : Program} {w : World} {K : PySem.W.Frag} {mg : Str → Option Value} {base : Heap} (T : Tx K mg) : Okk P w K mg base 1 "common_multiple" ["numbers"] (sp_common_multiple K) := by
  have hb_gcd := T.b_gcd
  obtain ⟨fd, F⟩ := T.f_common_multiple
  refine ⟨fd, F.ok sc_common_multiple (fun vs H Q E h => len_common_multiple h) (fun cdv A outer s H vs Q E hr h => ⟨t_common_multiple K, PSs.nox ?_, pure_common_multiple K vs H Q E h⟩), F.bindsN (fun _ _ _ _ _ _ us hl => match us, hl with | [_], _ => rfl), T.g_common_multiple, F.kp⟩
  exact (pss_cons (ps_set (i := 1) sc_common_multiple.nd rfl (by first | exact Or.inl rfl | exact Or.inr rfl) pe_int)
      (pss_cons (ps_for PassesOwn.never rfl (pi_list (pv 0)) (pg_name (i := 2) sc_common_multiple.nd rfl (by first | exact Or.inl rfl | exact Or.inr rfl)) (pss_one (ps_set (i := 1) sc_common_multiple.nd rfl (by first | exact Or.inl rfl | exact Or.inr rfl) (pe_op op_mulU (pe_op op_fdivW (pv 1) (pe_callBfun cr_gcd rfl hb_gcd (pa_cons (pv 1) (pa_cons (pv 2) pa_nil)))) (pv 2)))))
      (pss_one (ps_ret (pv 1)))))
/-! ### top_of -/
theorem sc_top_of : FnScope ["ground", "number"] ["ground", "number"] (defScope s_top_of) := ⟨rfl, rfl, rfl, by decide +kernel, rfl, by decide +kernel, by decide +kernel⟩
/-- a number of a ground: a over b, or the rest a -/
def NumR (H : Hp) (g : Int) (v : V) (a b : Int) : Prop :=
  (g = 0 ∧ (∃ p, v = .ref p ∧ H p = some (.tup [.int a, .int b])) ∧ 1 ≤ b ∧ Nat.gcd a.natAbs b.natAbs = 1) ∨ (g ≠ 0 ∧ v = .int a ∧ b = 1 ∧ 0 ≤ a ∧ a < g)
/-- at most sixty digits -/
def S60 (x : Int) : Prop := -(10 ^ 60) < x ∧ x < 10 ^ 60
theorem S60.sz {x : Int} (h : S60 x) : Sz 3000 x := Nat.lt_of_lt_of_le (show x.natAbs < 2 ^ 250 by have := h.1; have := h.2; omega) (Nat.pow_le_pow_right (by decide) (by decide))
theorem NumR.kn2 {H : Hp} {g : Int} {v : V} {a b : Int} (h : NumR H g v a b) : Kn2 H v := by
  rcases h with ⟨_, ⟨p, rfl, hp⟩, _⟩ | ⟨_, rfl, _⟩
  · refine ⟨.inr (.inl ⟨_, hp⟩), ?_⟩
    rintro xs ⟨a', e, h⟩ x hx
    cases e
    rw [hp] at h
    cases h
    simp only [List.mem_cons, List.not_mem_nil, or_false] at hx
    rcases hx with rfl | rfl <;> exact trivial
  · exact ⟨trivial, fun xs ⟨_, e, _⟩ => by cases e⟩
theorem NumR.numV {H : Hp} {g : Int} {v : V} {a b : Int} (h : NumR H g v a b) (sa : S60 a) (sb : S60 b) : NumV H g v (10 ^ 60) := by
  rcases h with ⟨e, ⟨p, rfl, hp⟩, b1, hc⟩ | ⟨hg, rfl, _, a0, a1⟩
  · exact .inr ⟨e, a, b, ⟨p, rfl, hp⟩, sa, sb, b1, hc⟩
  · exact .inl ⟨hg, a, rfl, a0, a1⟩
theorem ground_le {g : Int} (h : GroundV (.int g)) : 0 ≤ g ∧ g ≤ 9999 := by
  obtain ⟨n, e, h1, h2, _⟩ := h
  cases e
  exact ⟨h1, h2⟩
theorem ground_sz {g : Int} (h : GroundV (.int g)) : Sz 1000 g := Nat.lt_of_lt_of_le (show g.natAbs < 2 ^ 14 by have := ground_le h; omega) (Nat.pow_le_pow_right (by decide) (by decide))
theorem ground_cop {H : Hp} {g : Int} {w : V} {c d : Int} (h : GroundV (.int g)) (n : NumR H g w c d) (hc : c ≠ 0) : g ≠ 0 → Nat.gcd c.natAbs g.natAbs = 1 := fun hg => by
  obtain ⟨m, e, _, _, h | hp⟩ := h
  · cases e; exact absurd h hg
  · cases e
    rcases n with ⟨h, _⟩ | ⟨_, _, _, c0, c1⟩
    · exact absurd h hg
    · refine Classical.byContradiction fun hne => ?_
      have hg0 : Nat.gcd c.natAbs g.natAbs ≠ 0 := Nat.pos_iff_ne_zero.mp (Nat.gcd_pos_of_pos_left _ (by omega))
      have hle : Nat.gcd c.natAbs g.natAbs ≤ c.natAbs := Nat.le_of_dvd (by omega) (Nat.gcd_dvd_left _ _)
      refine hp.2 ((Nat.gcd c.natAbs g.natAbs : Nat) : Int) (by omega) (by omega) ?_
      exact Int.natAbs_dvd_natAbs.mp (by rw [Int.natAbs_natCast]; exact Nat.gcd_dvd_right _ _)
def sp_top_of (K : PySem.W.Frag) : Sp := fun vs H Q _ => ∃ (g : Int) (v : V) (a b : Int), vs = [.int g, v] ∧ NumR H g v a b ∧ Q (.int a) H
theorem len_top_of {K : PySem.W.Frag} {vs : List V} {H : Hp} {Q : VK} {E : XK} (h : sp_top_of K vs H Q E) : vs.length = ["ground", "number"].length := by
  obtain ⟨_, _, _, _, rfl, _⟩ := h
  rfl
def t_top_of (K : PySem.W.Frag) : TS := (tRet (tIf (tTest (tOp rEq (tVar 0) (tC (.int 0)))) (tOp (rIxA K) (tVar 1) (tC (.int 0))) (tVar 1)))
theorem NumR.same {H H' : Hp} {g : Int} {v : V} {a b : Int} (h : NumR H g v a b) (s : Same H H') : NumR H' g v a b := by
  rcases h with ⟨e, ⟨p, e2, h⟩, r⟩ | h
  · exact .inl ⟨e, ⟨p, e2, s _ _ h⟩, r⟩
  · exact .inr h
theorem pure_top_of (K : PySem.W.Frag) (vs : List V) (H : Hp) (Q : VK) (E : XK) (h : sp_top_of K vs H Q E) : t_top_of K { nx := fun _ H' => Q .non H', rt := Q } (start ["ground", "number"] vs) H := by
  obtain ⟨g, v, a, b, rfl, hn, hq⟩ := h
  unfold t_top_of
  walk_at "z"
  rcases hn with ⟨rfl, ⟨p, rfl, hp⟩, _⟩ | ⟨hg, rfl, _⟩
  · walk_at "z"
    exact ixT (sqT_of hp) (v := .int a) rfl hq
  · rw [if_neg hg]
    exact hq
theorem ok_top_of {P : Program} {w : World} {K : PySem.W.Frag} {mg : Str → Option Value} {base : Heap} (T : Tx K mg) : Okk P w K mg base 1 "top_of" ["ground", "number"] (sp_top_of K) := by
  obtain ⟨fd, F⟩ := T.f_top_of
  refine ⟨fd, F.ok sc_top_of (fun vs H Q E h => len_top_of h) (fun cdv A outer s H vs Q E hr h => ⟨t_top_of K, PSs.nox ?_, pure_top_of K vs H Q E h⟩), F.bindsN (fun _ _ _ _ _ _ us hl => match us, hl with | [_, _], _ => rfl), T.g_top_of, F.kp⟩
  exact (pss_one (ps_ret (pe_ifExp (pt_cmpR op_eq (pv 0) pe_int (nomark _)) (pe_ix ix_lt (pv 1) pe_int (fun _ _ => rfl)) (pv 1))))
/-! ### bottom_of -/
theorem sc_bottom_of : FnScope ["ground", "number"] ["ground", "number"] (defScope s_bottom_of) := ⟨rfl, rfl, rfl, by decide +kernel, rfl, by decide +kernel, by decide +kernel⟩
theorem isiT {K : PySem.W.Frag} {H : Hp} {T : Addr} {xs : List V} {Q : VK} (h : H T = some (.tup xs)) (q : Q (.bl true) H) : rIsi K [.ref T, .ty "tuple"] H Q :=
  isi_kn_tuple (.inr (.inl ⟨_, h⟩)) (fun _ _ => q) fun n => absurd ⟨T, rfl, h⟩ (n xs)
theorem NumR.numL {H : Hp} {g : Int} {v : V} {a b l : Int} (h : NumR H g v a b) (sa : -l < a ∧ a < l) (sb : -l < b ∧ b < l) : NumV H g v l := by
  rcases h with ⟨e, ⟨p, rfl, hp⟩, b1, hc⟩ | ⟨hg, rfl, _, a0, a1⟩
  · exact .inr ⟨e, a, b, ⟨p, rfl, hp⟩, sa, sb, b1, hc⟩
  · exact .inl ⟨hg, a, rfl, a0, a1⟩
theorem all_true {n : Nat} : outL (fun _ => some (V.bl true)) n = (List.replicate n true).map V.bl := by
  induction n with
  | zero => rfl
  | succ n ih => rw [outL_succ, ih, List.replicate_succ', List.map_append]; rfl
theorem all_id {n : Nat} : (List.replicate n true).all id = true := by
  induction n with
  | zero => rfl
  | succ n ih => rw [List.replicate_succ, List.all_cons, ih]; rfl
def TabFit (qss : List (List (Int × Int))) (W : Nat) : Prop := 1 ≤ qss.length ∧ qss.length ≤ 12 ∧ 1 ≤ W ∧ W ≤ 12 ∧ ∀ qs ∈ qss, qs.length = W ∧ ∀ q ∈ qs, (-(10 ^ 20) < q.1 ∧ q.1 < 10 ^ 20) ∧ -(10 ^ 20) < q.2 ∧ q.2 < 10 ^ 20
def RowN (H : Hp) (g : Int) (v : V) (qs : List (Int × Int)) : Prop := ∃ T xs, v = .ref T ∧ H T = some (.tup xs) ∧ All2 (fun v q => NumR H g v q.1 q.2) xs qs
theorem RowN.same {H H' : Hp} {g : Int} {v : V} {qs : List (Int × Int)} (h : RowN H g v qs) (s : Same H H') : RowN H' g v qs := by
  obtain ⟨T, xs, e, hT, hA⟩ := h
  exact ⟨T, xs, e, s _ _ hT, hA.imp fun v q n => n.same s⟩
def TabN (H : Hp) (g : Int) (v : V) (qss : List (List (Int × Int))) : Prop := ∃ T xs, v = .ref T ∧ H T = some (.tup xs) ∧ All2 (RowN H g) xs qss
theorem TabN.same {H H' : Hp} {g : Int} {v : V} {qss : List (List (Int × Int))} (h : TabN H g v qss) (s : Same H H') : TabN H' g v qss := by
  obtain ⟨T, xs, e, hT, hA⟩ := h
  exact ⟨T, xs, e, s _ _ hT, hA.imp fun v q n => n.same s⟩
def sp_bottom_of (K : PySem.W.Frag) : Sp := fun vs H Q _ => ∃ (g : Int) (v : V) (a b : Int), vs = [.int g, v] ∧ NumR H g v a b ∧ Q (.int b) H
theorem len_bottom_of {K : PySem.W.Frag} {vs : List V} {H : Hp} {Q : VK} {E : XK} (h : sp_bottom_of K vs H Q E) : vs.length = ["ground", "number"].length := by
  obtain ⟨_, _, _, _, rfl, _⟩ := h
  rfl
def t_bottom_of (K : PySem.W.Frag) : TS := (tRet (tIf (tTest (tOp rEq (tVar 0) (tC (.int 0)))) (tOp (rIxA K) (tVar 1) (tC (.int 1))) (tC (.int 1))))
theorem pure_bottom_of (K : PySem.W.Frag) (vs : List V) (H : Hp) (Q : VK) (E : XK) (h : sp_bottom_of K vs H Q E) : t_bottom_of K { nx := fun _ H' => Q .non H', rt := Q } (start ["ground", "number"] vs) H := by
  obtain ⟨g, v, a, b, rfl, hn, hq⟩ := h
  unfold t_bottom_of
  walk_at "z"
  rcases hn with ⟨rfl, ⟨p, rfl, hp⟩, _⟩ | ⟨hg, rfl, rfl, _⟩
  · walk_at "z"
    exact ixT (sqT_of hp) (v := .int b) rfl hq
  · rw [if_neg hg]
    exact hq
theorem ok_bottom_of {P : Program} {w : World} {K : PySem.W.Frag} {mg : Str → Option Value} {base : Heap} (T : Tx K mg) : Okk P w K mg base 1 "bottom_of" ["ground", "number"] (sp_bottom_of K) := by
  obtain ⟨fd, F⟩ := T.f_bottom_of
  refine ⟨fd, F.ok sc_bottom_of (fun vs H Q E h => len_bottom_of h) (fun cdv A outer s H vs Q E hr h => ⟨t_bottom_of K, PSs.nox ?_, pure_bottom_of K vs H Q E h⟩), F.bindsN (fun _ _ _ _ _ _ us hl => match us, hl with | [_, _], _ => rfl), T.g_bottom_of, F.kp⟩
  exact (pss_one (ps_ret (pe_ifExp (pt_cmpR op_eq (pv 0) pe_int (nomark _)) (pe_ix ix_lt (pv 1) pe_int (fun _ _ => rfl)) pe_int)))
/-! ### sign_of -/
theorem sc_sign_of : FnScope ["number"] ["number"] (defScope s_sign_of) := ⟨rfl, rfl, rfl, by decide +kernel, rfl, by decide +kernel, by decide +kernel⟩
def sp_sign_of (K : PySem.W.Frag) : Sp := fun vs H Q _ => ∃ n : Int, vs = [.int n] ∧ Q (.int (if n = 0 then 0 else if n < 0 then -1 else 1)) H
theorem len_sign_of {K : PySem.W.Frag} {vs : List V} {H : Hp} {Q : VK} {E : XK} (h : sp_sign_of K vs H Q E) : vs.length = ["number"].length := by
  obtain ⟨_, rfl, _⟩ := h
  rfl
def t_sign_of (K : PySem.W.Frag) : TS := (tSeq (tIfS (tTest (tOp rEq (tVar 0) (tC (.int 0)))) (tRet (tC (.int 0))) tNext)
  (tRet (tIf (tTest (tOp rLtI (tVar 0) (tC (.int 0)))) (tUn rNeg (tC (.int 1))) (tC (.int 1)))))
theorem pure_sign_of (K : PySem.W.Frag) (vs : List V) (H : Hp) (Q : VK) (E : XK) (h : sp_sign_of K vs H Q E) : t_sign_of K { nx := fun _ H' => Q .non H', rt := Q } (start ["number"] vs) H := by
  obtain ⟨n, rfl, hq⟩ := h
  unfold t_sign_of
  walk_at "z"
  by_cases h1 : n = 0
  · rw [if_pos h1] at hq
    rw [if_pos h1]
    exact hq
  · rw [if_neg h1] at hq
    rw [if_neg h1]
    walk_at "z"
    by_cases h2 : n < 0
    · rw [if_pos h2] at hq
      rw [if_pos h2]
      exact hq
    · rw [if_neg h2] at hq
      rw [if_neg h2]
      exact hq
theorem ok_sign_of {P : Program} {w : World} {K : PySem.W.Frag} {mg : Str → Option Value} {base : Heap} (T : Tx K mg) : Okk P w K mg base 1 "sign_of" ["number"] (sp_sign_of K) := by
  obtain ⟨fd, F⟩ := T.f_sign_of
  refine ⟨fd, F.ok sc_sign_of (fun vs H Q E h => len_sign_of h) (fun cdv A outer s H vs Q E hr h => ⟨t_sign_of K, PSs.nox ?_, pure_sign_of K vs H Q E h⟩), F.bindsN (fun _ _ _ _ _ _ us hl => match us, hl with | [_], _ => rfl), T.g_sign_of, F.kp⟩
  exact (pss_cons (ps_if (pt_cmpR op_eq (pv 0) pe_int (nomark _)) (pss_one (ps_ret pe_int)) pss_nil)
      (pss_one (ps_ret (pe_ifExp (pt_cmpR op_lt (pv 0) pe_int (nomark _)) (pe_un un_neg pe_int) pe_int))))
/-! ### without_zeros -/
theorem sc_without_zeros : FnScope ["numbers", "many"] ["numbers"] (defScope s_without_zeros) := ⟨rfl, rfl, rfl, by decide +kernel, rfl, by decide +kernel, by decide +kernel⟩
def sp_without_zeros (K : PySem.W.Frag) : Sp := fun vs H Q _ => ∃ (a : Addr) (ns : List Int), vs = [.ref a] ∧ H a = some (.lst (ns.map V.int)) ∧ ns.length < 2 ^ 20 ∧ ∀ v H', Same H H' → TupI K H' v (trim ns) → Q v H'
theorem len_without_zeros {K : PySem.W.Frag} {vs : List V} {H : Hp} {Q : VK} {E : XK} (h : sp_without_zeros K vs H Q E) : vs.length = ["numbers"].length := by
  obtain ⟨_, _, rfl, _⟩ := h
  rfl
def t_without_zeros_w1_c (K : PySem.W.Frag) : TT := (tAnd (tTest (tOp rGtI (tVar 1) (tC (.int 0)))) (tTest (tOp rEq (tOp (rIxA K) (tVar 0) (tOp rSub (tVar 1) (tC (.int 1)))) (tC (.int 0)))))
def t_without_zeros_w1_b (K : PySem.W.Frag) : TS := (tAug 1 (tC (.int 1)) (ipI fun i j => i - j))
def t_without_zeros (K : PySem.W.Frag) : TS := (tSeq (tAsg (tCB (rLenU K) (tCons (tVar 0) tNil)) (gName 1))
  (tSeq (tWhile (t_without_zeros_w1_c K) (t_without_zeros_w1_b K))
  (tRet (tCB (rTupOf K) (tCons (tSl (rSlL K) (tVar 0) tNoPart (tPart (tVar 1))) tNil)))))
theorem pure_without_zeros (K : PySem.W.Frag) (vs : List V) (H : Hp) (Q : VK) (E : XK) (h : sp_without_zeros K vs H Q E) : t_without_zeros K { nx := fun _ H' => Q .non H', rt := Q } (start ["numbers", "many"] vs) H := by
  obtain ⟨a, ns, rfl, ha, hn, hq⟩ := h
  unfold t_without_zeros
  walk_at "z"
  refine lenL (sqL_of ha) ?_
  walk_at "z"
  rw [List.length_map]
  refine while_of (fun μ σ H' => ∃ m : Nat, σ = [some (.ref a), some (.int (m : Int))] ∧ H' = H ∧ m ≤ ns.length ∧ μ = m ∧ trim ns = trim (ns.take m)) ns.length ⟨ns.length, rfl, rfl, Nat.le_refl _, rfl, by rw [List.take_length]⟩ ?_
  rintro μ σ H' ⟨m, rfl, rfl, hm, hμ, ht⟩ N hN hN2
  unfold t_without_zeros_w1_c t_without_zeros_w1_b
  have fin : trim ns = ns.take m → rSlL K (V.ref a) none (some (m : Int)) H' fun x H1 => rTupOf K [x] H1 Q := fun e => by
    refine ⟨a, _, rfl, sqL_of ha, fun p hp => ?_⟩
    rw [cut_toP (by rw [List.length_map]; exact hm), ← List.map_take, ← e]
    refine ⟨p, _, rfl, .inl ⟨sqL_of upd_same, fun l hl => hq _ _ (same_new (same_upd hp) hl) ⟨l, rfl, sqT_of upd_same⟩⟩⟩
  walk_at "z"
  by_cases h0 : 0 < m
  · rw [if_pos (by omega)]
    have hk : m - 1 < ns.length := by omega
    rw [show ((m : Int) - 1) = ((m - 1 : Nat) : Int) by omega]
    refine ixLI ha hk ?_
    walk_at "z"
    have et : ns.take m = ns.take (m - 1) ++ [ns.getD (m - 1) 0] := by
      have : m = m - 1 + 1 := by omega
      conv => lhs; rw [this, List.take_succ, List.getElem?_eq_getElem hk]
      rw [List.getD_eq_getElem?_getD, List.getElem?_eq_getElem hk]; rfl
    by_cases h1 : ns.getD (m - 1) 0 = 0
    · rw [if_pos h1]
      refine ⟨N, hN2, ?_⟩
      walk_at "z"
      refine hN (m - 1) _ _ (by omega) ⟨m - 1, rfl, rfl, by omega, rfl, ?_⟩
      rw [ht, et, h1, trim_zero]
    · rw [if_neg h1]
      refine fin ?_
      rw [ht, et, trim_full _ h1]
  · rw [if_neg (by omega)]
    have : m = 0 := by omega
    subst this
    exact fin (by rw [ht]; rfl)
theorem ok_without_zeros {P : Program} {w : World} {K : PySem.W.Frag} {mg : Str → Option Value} {base : Heap} (T : Tx K mg) : Okk P w K mg base 1 "without_zeros" ["numbers"] (sp_without_zeros K) := by
  have hf_len := T.n_len
  have hf_tuple := T.n_tuple
  obtain ⟨fd, F⟩ := T.f_without_zeros
  refine ⟨fd, F.ok sc_without_zeros (fun vs H Q E h => len_without_zeros h) (fun cdv A outer s H vs Q E hr h => ⟨t_without_zeros K, PSs.nox ?_, pure_without_zeros K vs H Q E h⟩), F.bindsN (fun _ _ _ _ _ _ us hl => match us, hl with | [_], _ => rfl), T.g_without_zeros, F.kp⟩
  exact (pss_cons (ps_set (i := 1) sc_without_zeros.nd rfl (by first | exact Or.inl rfl | exact Or.inr rfl) (pe_callB call_len_seq (by rfl) hf_len (by decide +kernel) (pa_cons (pv 0) pa_nil)))
      (pss_cons (ps_while PassesOwn.never (PW.pt (pw_and (pt_cmpR op_gt (pv 1) pe_int (nomark _)) (pw_and1 (pt_cmpR op_eq (pe_ix ix_lt (pv 0) (pe_op op_sub (pv 1) pe_int) (fun _ _ => rfl)) pe_int (nomark _))))) (pss_one (ps_aug (i := 1) sc_without_zeros.nd rfl (by first | exact Or.inl rfl | exact Or.inr rfl) pe_int ip_sub)))
      (pss_one (ps_ret (pe_callTy call_tuple_of (by rfl) hf_tuple (by decide +kernel) (pa_cons (pe_slice sl_list (pv 0) po_none (po_some (pv 1))) pa_nil))))))
/-! ### degree_of -/
theorem sc_degree_of : FnScope ["inner"] ["inner"] (defScope s_degree_of) := ⟨rfl, rfl, rfl, by decide +kernel, rfl, by decide +kernel, by decide +kernel⟩
def sp_degree_of (K : PySem.W.Frag) : Sp := fun vs H Q _ => ∃ (v : V) (ns : List Int) (b : Int), vs = [v] ∧ InP K H v ns b ∧ Q (.int ((ns.length : Int) - 1)) H
theorem len_degree_of {K : PySem.W.Frag} {vs : List V} {H : Hp} {Q : VK} {E : XK} (h : sp_degree_of K vs H Q E) : vs.length = ["inner"].length := by
  obtain ⟨_, _, _, rfl, _⟩ := h
  rfl
def t_degree_of (K : PySem.W.Frag) : TS := (tRet (tOp rSub (tCB (rLenU K) (tCons (tOp (rIxA K) (tVar 0) (tC (.int 0))) tNil)) (tC (.int 1))))
theorem pure_degree_of (K : PySem.W.Frag) (vs : List V) (H : Hp) (Q : VK) (E : XK) (h : sp_degree_of K vs H Q E) : t_degree_of K { nx := fun _ H' => Q .non H', rt := Q } (start ["inner"] vs) H := by
  obtain ⟨v, ns, b, rfl, hv, hq⟩ := h
  unfold t_degree_of
  walk_at "z"
  refine hv.ix0 fun t i => i.len ?_
  walk_at "z"
  exact hq
theorem ok_degree_of {P : Program} {w : World} {K : PySem.W.Frag} {mg : Str → Option Value} {base : Heap} (T : Tx K mg) : Okk P w K mg base 1 "degree_of" ["inner"] (sp_degree_of K) := by
  have hf_len := T.n_len
  obtain ⟨fd, F⟩ := T.f_degree_of
  refine ⟨fd, F.ok sc_degree_of (fun vs H Q E h => len_degree_of h) (fun cdv A outer s H vs Q E hr h => ⟨t_degree_of K, PSs.nox ?_, pure_degree_of K vs H Q E h⟩), F.bindsN (fun _ _ _ _ _ _ us hl => match us, hl with | [_], _ => rfl), T.g_degree_of, F.kp⟩
  exact (pss_one (ps_ret (pe_op op_sub (pe_callB call_len_seq (by rfl) hf_len (by decide +kernel) (pa_cons (pe_ix ix_lt (pv 0) pe_int (fun _ _ => rfl)) pa_nil)) pe_int)))
/-! ### root_bound -/
theorem sc_root_bound : FnScope ["inner", "sizes", "number", "bound"] ["inner"] (defScope s_root_bound) := ⟨rfl, rfl, rfl, by decide +kernel, rfl, by decide +kernel, by decide +kernel⟩
def sp_root_bound (K : PySem.W.Frag) : Sp := fun _ _ _ _ => False
theorem len_root_bound {K : PySem.W.Frag} {vs : List V} {H : Hp} {Q : VK} {E : XK} (h : sp_root_bound K vs H Q E) : vs.length = ["inner"].length := h.elim
theorem ok_root_bound {P : Program} {w : World} {K : PySem.W.Frag} {mg : Str → Option Value} {base : Heap} (T : Tx K mg) : Okk P w K mg base 1 "root_bound" ["inner"] (sp_root_bound K) := by
  obtain ⟨fd, F⟩ := T.f_root_bound
  exact ⟨fd, F.ok sc_root_bound (fun vs H Q E h => len_root_bound h) (fun cdv A outer s H vs Q E hr h => h.elim), F.bindsN (fun _ _ _ _ _ _ us hl => match us, hl with | [_], _ => rfl), T.g_root_bound, F.kp⟩
/-! ### is_below -/
theorem sc_is_below : FnScope ["value", "limit"] ["value", "limit"] (defScope s_is_below) := ⟨rfl, rfl, rfl, by decide +kernel, rfl, by decide +kernel, by decide +kernel⟩
def sp_is_below (K : PySem.W.Frag) : Sp := fun vs H Q _ => ∃ (v : V) (l : Int), vs = [v, .int l] ∧ Kn H v ∧ Q (.bl (belowB v l)) H
theorem len_is_below {K : PySem.W.Frag} {vs : List V} {H : Hp} {Q : VK} {E : XK} (h : sp_is_below K vs H Q E) : vs.length = ["value", "limit"].length := by
  obtain ⟨_, _, rfl, _⟩ := h
  rfl
def t_is_below (K : PySem.W.Frag) : TS := (tRet (tAndV (tCall (sp_is_int K) [] E0 (tCons (tVar 0) tNil)) (tOrV (tIsN (tVar 1)) (tChain rLtI rLtI (tUn rNeg (tVar 1)) (tVar 0) (tVar 1)))))
theorem pure_is_below (K : PySem.W.Frag) (vs : List V) (H : Hp) (Q : VK) (E : XK) (h : sp_is_below K vs H Q E) : t_is_below K { nx := fun _ H' => Q .non H', rt := Q } (start ["value", "limit"] vs) H := by
  obtain ⟨v, l, rfl, hk, hq⟩ := h
  unfold t_is_below
  walk_at "z"
  refine ⟨v, rfl, hk, ?_⟩
  walk_at "z"
  cases v with
  | int i =>
    simp only [isI, if_true]
    walk_at "z"
    unfold belowB at hq
    by_cases h1 : -l < i
    · rw [if_pos h1]
      simpa [h1] using hq
    · rw [if_neg h1]
      simpa [h1] using hq
  | _ =>
    simp only [isI, Bool.false_eq_true, if_false]
    exact hq
theorem ok_is_below {P : Program} {w : World} {K : PySem.W.Frag} {mg : Str → Option Value} {base : Heap} (T : Tx K mg) : Okk P w K mg base 2 "is_below" ["value", "limit"] (sp_is_below K) := by
  obtain ⟨fd_is_int, F_is_int, b_is_int, g_is_int, k_is_int⟩ := ok_is_int (P := P) (w := w) (base := base) T
  obtain ⟨fd, F⟩ := T.f_is_below
  refine ⟨fd, F.ok sc_is_below (fun vs H Q E h => len_is_below h) (fun cdv A outer s H vs Q E hr h => ⟨t_is_below K, PSs.nox ?_, pure_is_below K vs H Q E h⟩), F.bindsN (fun _ _ _ _ _ _ us hl => match us, hl with | [_, _], _ => rfl), T.g_is_below, F.kp⟩
  exact (pss_one (ps_ret (pe_and (pe_call F_is_int (hr.mono (by decide)) rfl g_is_int k_is_int b_is_int .nil pass0 (pa_cons (pv 0) pa_nil)) (pe_one (pe_or (pe_cmp (pc_isN (pv 1))) (pe_one (pe_chain op_lt op_lt (pe_un un_neg (pv 1)) (pv 0) (pv 1))))))))
/-! ### undone_modulo -/
theorem sc_undone_modulo : FnScope ["number", "modulus"] ["number", "modulus"] (defScope s_undone_modulo) := ⟨rfl, rfl, rfl, by decide +kernel, rfl, by decide +kernel, by decide +kernel⟩
def sp_undone_modulo (K : PySem.W.Frag) : Sp := fun vs H Q _ => ∃ a m : Int, vs = [.int a, .int m] ∧ 0 < m ∧ Sz 8000 m ∧ ∀ u H', Same H H' → 0 ≤ u → u < m → (a * u) % m = ((Nat.gcd (a % m).natAbs m.natAbs : Nat) : Int) % m → Q (.int u) H'
theorem len_undone_modulo {K : PySem.W.Frag} {vs : List V} {H : Hp} {Q : VK} {E : XK} (h : sp_undone_modulo K vs H Q E) : vs.length = ["number", "modulus"].length := by
  obtain ⟨_, _, rfl, _⟩ := h
  rfl
def t_undone_modulo (K : PySem.W.Frag) : TS := (tRet (tOp rModU (tOp (rIxA K) (tCall (sp_bezout K) [] E0 (tCons (tOp rModU (tVar 0) (tVar 1)) (tCons (tVar 1) tNil))) (tC (.int 1))) (tVar 1)))
theorem pure_undone_modulo (K : PySem.W.Frag) (vs : List V) (H : Hp) (Q : VK) (E : XK) (h : sp_undone_modulo K vs H Q E) : t_undone_modulo K { nx := fun _ H' => Q .non H', rt := Q } (start ["number", "modulus"] vs) H := by
  obtain ⟨a, m, rfl, hm, sm, hq⟩ := h
  unfold t_undone_modulo
  walk_at "z"
  have h0 : 0 ≤ a % m := Int.emod_nonneg _ (by omega)
  have h1 : a % m < m := Int.emod_lt_of_pos _ hm
  refine ⟨hm, a % m, m, rfl, h0, by omega, sz_le sm (by omega), sm, fun p u v H' s e su hp => ?_⟩
  refine ixT (sqT_of hp) (v := .int u) rfl ?_
  walk_at "z"
  refine ⟨hm, hq _ _ s (Int.emod_nonneg _ (by omega)) (Int.emod_lt_of_pos _ hm) ?_⟩
  rw [← e, Int.mul_emod, emod_emod', ← Int.mul_emod, Int.add_mul_emod_self_left, Int.mul_emod (a % m), emod_emod', ← Int.mul_emod]
theorem ok_undone_modulo {P : Program} {w : World} {K : PySem.W.Frag} {mg : Str → Option Value} {base : Heap} (T : Tx K mg) : Okk P w K mg base 2 "undone_modulo" ["number", "modulus"] (sp_undone_modulo K) := by
  obtain ⟨fd_bezout, F_bezout, b_bezout, g_bezout, k_bezout⟩ := ok_bezout (P := P) (w := w) (base := base) T
  obtain ⟨fd, F⟩ := T.f_undone_modulo
  refine ⟨fd, F.ok sc_undone_modulo (fun vs H Q E h => len_undone_modulo h) (fun cdv A outer s H vs Q E hr h => ⟨t_undone_modulo K, PSs.nox ?_, pure_undone_modulo K vs H Q E h⟩), F.bindsN (fun _ _ _ _ _ _ us hl => match us, hl with | [_, _], _ => rfl), T.g_undone_modulo, F.kp⟩
  exact (pss_one (ps_ret (pe_op op_mod (pe_ix ix_lt (pe_call F_bezout (hr.mono (by decide)) rfl g_bezout k_bezout b_bezout .nil pass0 (pa_cons (pe_op op_mod (pv 0) (pv 1)) (pa_cons (pv 1) pa_nil))) pe_int (fun _ _ => rfl)) (pv 1))))
/-! ### is_zero -/
theorem sc_is_zero : FnScope ["ground", "number"] ["ground", "number"] (defScope s_is_zero) := ⟨rfl, rfl, rfl, by decide +kernel, rfl, by decide +kernel, by decide +kernel⟩
def sp_is_zero (K : PySem.W.Frag) : Sp := fun vs H Q _ => ∃ (g : Int) (v : V) (a b : Int), vs = [.int g, v] ∧ NumR H g v a b ∧ Q (.bl (decide (a = 0))) H
theorem len_is_zero {K : PySem.W.Frag} {vs : List V} {H : Hp} {Q : VK} {E : XK} (h : sp_is_zero K vs H Q E) : vs.length = ["ground", "number"].length := by
  obtain ⟨_, _, _, _, rfl, _⟩ := h
  rfl
def t_is_zero (K : PySem.W.Frag) : TS := (tRet (tOp rEq (tCall (sp_top_of K) [] E0 (tCons (tVar 0) (tCons (tVar 1) tNil))) (tC (.int 0))))
theorem pure_is_zero (K : PySem.W.Frag) (vs : List V) (H : Hp) (Q : VK) (E : XK) (h : sp_is_zero K vs H Q E) : t_is_zero K { nx := fun _ H' => Q .non H', rt := Q } (start ["ground", "number"] vs) H := by
  obtain ⟨g, v, a, b, rfl, hn, hq⟩ := h
  unfold t_is_zero
  walk_at "z"
  refine ⟨g, v, a, b, rfl, hn, ?_⟩
  walk_at "z"
  exact hq
theorem ok_is_zero {P : Program} {w : World} {K : PySem.W.Frag} {mg : Str → Option Value} {base : Heap} (T : Tx K mg) : Okk P w K mg base 2 "is_zero" ["ground", "number"] (sp_is_zero K) := by
  obtain ⟨fd_top_of, F_top_of, b_top_of, g_top_of, k_top_of⟩ := ok_top_of (P := P) (w := w) (base := base) T
  obtain ⟨fd, F⟩ := T.f_is_zero
  refine ⟨fd, F.ok sc_is_zero (fun vs H Q E h => len_is_zero h) (fun cdv A outer s H vs Q E hr h => ⟨t_is_zero K, PSs.nox ?_, pure_is_zero K vs H Q E h⟩), F.bindsN (fun _ _ _ _ _ _ us hl => match us, hl with | [_, _], _ => rfl), T.g_is_zero, F.kp⟩
  exact (pss_one (ps_ret (pe_cmpR op_eq (pe_call F_top_of (hr.mono (by decide)) rfl g_top_of k_top_of b_top_of .nil pass0 (pa_cons (pv 0) (pa_cons (pv 1) pa_nil))) pe_int (nomark _))))
/-! ### whole_row -/
theorem sc_whole_row : FnScope ["ground", "numbers", "bottom", "number"] ["ground", "numbers"] (defScope s_whole_row) := ⟨rfl, rfl, rfl, by decide +kernel, rfl, by decide +kernel, by decide +kernel⟩
def WholeR (qs : List (Int × Int)) (ns : List Int) : Prop := ∃ B : Int, 1 ≤ B ∧ (∀ q ∈ qs, q.2 ∣ B) ∧ B ≤ prI (qs.map (·.2)) ∧ ns = qs.map fun q => q.1 * (B / q.2)
def TabOk (qss : List (List (Int × Int))) (W : Nat) : Prop := qss.length ≤ 12 ∧ (∀ qs ∈ qss, qs.length = W ∧ (∀ q ∈ qs, Sz 150 q.1) ∧ Sz 450 (prI (qs.map (·.2)))) ∧ W < 2 ^ 20
theorem All2.push {α β : Type} {R : α → β → Prop} {xs : List α} {qs : List β} (h : All2 R xs qs) {x : α} {q : β} (hx : R x q) : All2 R (xs ++ [x]) (qs ++ [q]) := by
  refine ⟨by simp [h.1], fun i v r hv hr => ?_⟩
  by_cases e : i < xs.length
  · rw [List.getElem?_append_left e] at hv
    rw [List.getElem?_append_left (by rw [← h.1]; exact e)] at hr
    exact h.2 i v r hv hr
  · have hi : i < (xs ++ [x]).length := (List.getElem?_eq_some_iff.mp hv).1
    simp at hi
    have e2 : i = xs.length := by omega
    subst e2
    rw [List.getElem?_append_right (Nat.le_refl _)] at hv
    rw [List.getElem?_append_right (by rw [h.1]; exact Nat.le_refl _)] at hr
    simp [h.1] at hv hr
    subst hv; subst hr
    exact hx
theorem ListI.upd {H : Hp} {v : V} {ns : List Int} {D : Addr} {o : HO} (h : ListI H v ns) (hv : v ≠ .ref D) : ListI (upd H D o) v ns := by
  obtain ⟨a, rfl, h⟩ := h
  exact ⟨a, rfl, by rw [upd_ne (fun e => hv (by rw [e]))]; exact h⟩
theorem rows_imp {H H' : Hp} {xs : List V} {nss : List (List Int)} (h : All2 (ListI H) xs nss) (f : ∀ v ns, v ∈ xs → ListI H v ns → ListI H' v ns) : All2 (ListI H') xs nss :=
  ⟨h.1, fun i v q a b => f v q (List.mem_of_getElem? a) (h.2 i v q a b)⟩
theorem NumR.updL {H : Hp} {g : Int} {v : V} {a b : Int} {D : Addr} {o : HO} {zs : List V} (h : NumR H g v a b) (hD : H D = some (.lst zs)) : NumR (upd H D o) g v a b := by
  rcases h with ⟨e, ⟨p, e2, h⟩, r⟩ | h
  · refine .inl ⟨e, ⟨p, e2, ?_⟩, r⟩
    rw [upd_ne (fun e => by rw [e, hD] at h; cases h)]
    exact h
  · exact .inr h
theorem RowN.updL {H : Hp} {g : Int} {v : V} {qs : List (Int × Int)} {D : Addr} {o : HO} {zs : List V} (h : RowN H g v qs) (hD : H D = some (.lst zs)) : RowN (upd H D o) g v qs := by
  obtain ⟨T, xs, e, hT, hA⟩ := h
  refine ⟨T, xs, e, ?_, hA.imp fun v q n => n.updL hD⟩
  rw [upd_ne (fun e => by rw [e, hD] at hT; cases hT)]
  exact hT
theorem num_bot {H : Hp} {g : Int} {v : V} {a b : Int} (h : NumR H g v a b) : 1 ≤ b ∧ (g ≠ 0 → b = 1 ∧ 0 ≤ a ∧ a < g) := by
  rcases h with ⟨e, _, h, _⟩ | ⟨e, _, h, h1, h2⟩
  · exact ⟨h, fun e2 => absurd e e2⟩
  · exact ⟨by omega, fun _ => ⟨h, h1, h2⟩⟩
theorem row_bot {H : Hp} {g : Int} {v : V} {qs : List (Int × Int)} (h : RowN H g v qs) : ∀ q ∈ qs, 1 ≤ q.2 ∧ (g ≠ 0 → q.2 = 1 ∧ 0 ≤ q.1 ∧ q.1 < g) := fun q hq => by
  obtain ⟨T, xs, _, _, hA⟩ := h
  obtain ⟨i, hi⟩ := List.mem_iff_getElem?.mp hq
  have hlt := (List.getElem?_eq_some_iff.mp hi).1
  exact num_bot (hA.2 i _ q (List.getElem?_eq_getElem (by rw [hA.1]; exact hlt)) hi)
theorem sz_up {n m : Nat} {x : Int} (h : Sz n x) (hm : n ≤ m) : Sz m x := Nat.lt_of_lt_of_le h (Nat.pow_le_pow_right (by decide) hm)
theorem All2.set {α β : Type} {R : α → β → Prop} {xs : List α} {qs : List β} (h : All2 R xs qs) {i : Nat} {x : α} {q : β} (hx : R x q) : All2 R (xs.set i x) (qs.set i q) := by
  refine ⟨by simp [h.1], fun k v r hv hr => ?_⟩
  rw [List.getElem?_set] at hv hr
  by_cases e : i = k
  · rw [if_pos e] at hv hr
    split at hv
    · rw [if_pos (by rw [← h.1]; assumption)] at hr
      cases hv; cases hr; exact hx
    · cases hv
  · rw [if_neg e] at hv hr
    exact h.2 k v r hv hr
def OverR (F : Type) [Lean.Grind.Field F] (d n : Int) (q : Int × Int) : Prop := Lin.val F q.1 q.2 = Lin.ph F n * (Lin.ph F d)⁻¹
theorem tab_head {H : Hp} {g : Int} {v : V} {qss : List (List (Int × Int))} {W : Nat} (h : TabN H g v qss) (hf : TabFit qss W) {K : PySem.W.Frag} {Q : VK} (q : Q (.int (W : Int)) H) : rIxA K v (.int 0) H fun x H1 => rLenU K [x] H1 Q := by
  obtain ⟨T, xs, rfl, hT, hA⟩ := h
  have h0 : 0 < xs.length := by rw [hA.1]; exact hf.1
  obtain ⟨qs, hqs, T2, ys, e, hT2, hy⟩ := hA.get (List.getElem?_eq_getElem h0)
  refine ixT (sqT_of hT) (v := .ref T2) (atN (i := 0) (by rw [List.getElem?_eq_getElem h0, e])) ?_
  refine lenT (sqT_of hT2) ?_
  rw [hy.1, (hf.2.2.2.2 qs (List.mem_of_getElem? hqs)).1]
  exact q
/-! comprehensions that lay new things: P v a: v is a thing that tells a; S i a: what the i-th one tells -/
structure Stay {α : Type} (P : Hp → V → α → Prop) : Prop where
  same : ∀ {H H' : Hp} {v : V} {a : α}, P H v a → Same H H' → P H' v a
  upd : ∀ {H : Hp} {D : Addr} {zs : List V} {o : HO} {v : V} {a : α}, P H v a → H D = some (.lst zs) → P (L2.upd H D o) v a
theorem stay_num (g : Int) : Stay (α := Int × Int) fun H v q => NumR H g v q.1 q.2 := ⟨fun h s => h.same s, fun h hD => h.updL hD⟩
theorem stay_row (g : Int) : Stay (RowN · g) := ⟨fun h s => h.same s, fun h hD => h.updL hD⟩
def BI {α : Type} (P : Hp → V → α → Prop) (S : Nat → α → Prop) (H1 : Hp) (D : Addr) (i : Nat) (H' : Hp) : Prop :=
  Same H1 H' ∧ ∃ (zs : List V) (as : List α), H' D = some (.lst zs) ∧ All2 (P H') zs as ∧ as.length = i ∧ ∀ (k : Nat) (a : α), as[k]? = some a → S k a
section
variable {α : Type} {P : Hp → V → α → Prop} {S : Nat → α → Prop} {H1 : Hp} {D : Addr} {i : Nat} {H' : Hp}
theorem BI.zero (hD : H1 D = none) : BI P S H1 D 0 (upd H1 D (.lst [])) := ⟨same_upd hD, [], [], upd_same, ⟨rfl, fun i v q a b => by simp at a⟩, rfl, fun k a h => by simp at h⟩
theorem BI.step (st : Stay P) (hD : H1 D = none) (h : BI P S H1 D i H') {H2 : Hp} (s : Same H' H2) {y : V} {a : α} (hp : P H2 y a) (hs : S i a) (hi : i < 2 ^ 20) : OutOf D (BI P S H1 D (i + 1)) (some y) H2 := by
  obtain ⟨s1, zs, as, hz, hA, hl, hS⟩ := h
  refine ⟨zs, s _ _ hz, by rw [hA.1, hl]; exact Nat.lt_of_lt_of_le hi (by decide), same_mutD (s1.trans s) hD, zs ++ [y], as ++ [a], upd_same, (hA.imp fun v q n => st.upd (st.same n s) (s _ _ hz)).push (st.upd hp (s _ _ hz)), by simp [hl], fun k b hk => ?_⟩
  by_cases e : k < as.length
  · rw [List.getElem?_append_left e] at hk
    exact hS k b hk
  · have hlt := (List.getElem?_eq_some_iff.mp hk).1
    simp at hlt
    have e2 : k = as.length := by omega
    subst e2
    rw [List.getElem?_append_right (Nat.le_refl _)] at hk
    simp at hk
    subst hk
    rw [hl]; exact hs
variable {K : PySem.W.Frag} {g : TG} {te : TE} {vs : List Nat} {σ : St} {Q : VK}
theorem comp_RA {lo : Int} {n : Nat} (st : Stay P) (hn : n < 2 ^ 20)
    (turn : ∀ i H', i < n → Same H1 H' → ∀ Qo : VK, (∀ H2 y a, Same H' H2 → P H2 y a → S i a → Qo y H2) → g (.int (lo + i)) (wipe σ vs) H' fun σ2 H2 => wipe σ2 vs = wipe σ vs ∧ te σ2 H2 Qo)
    (fin : ∀ D H' zs as, H1 D = none → Same H1 H' → H' D = some (.lst zs) → All2 (P H') zs as → as.length = n → (∀ (k : Nat) (a : α), as[k]? = some a → S k a) → Q (.ref D) H') : LcW (Itr lo n) H1 g tYes te vs σ Q := fun D hD =>
  lc_range (lo := lo) (n := n) (BI P S H1 D) (BI.zero hD) (fun i H' hi p => turn i H' hi p.1 _ fun H2 y a s hp hs => p.step st hD s hp hs (by omega)) (fun H' ⟨s, zs, as, hz, hA, hl, hS⟩ => fin D H' zs as hD s hz hA hl hS)
theorem comp_TA {a : Addr} {xs : List V} (st : Stay P) (hT : H1 a = some (.tup xs)) (hn : xs.length < 2 ^ 20)
    (turn : ∀ i x H', xs[i]? = some x → Same H1 H' → ∀ Qo : VK, (∀ H2 y a, Same H' H2 → P H2 y a → S i a → Qo y H2) → g x (wipe σ vs) H' fun σ2 H2 => wipe σ2 vs = wipe σ vs ∧ te σ2 H2 Qo)
    (fin : ∀ D H' zs as, H1 D = none → Same H1 H' → H' D = some (.lst zs) → All2 (P H') zs as → as.length = xs.length → (∀ (k : Nat) (a : α), as[k]? = some a → S k a) → Q (.ref D) H') : LcW (Itt K a) H1 g tYes te vs σ Q := fun D hD =>
  lc_tup (xs := xs) (BI P S H1 D) (BI.zero hD) (fun i H' _ p => sqT_of (p.1 _ _ hT)) (fun i x H' hx p => turn i x H' hx p.1 _ fun H2 y a s hp hs => p.step st hD s hp hs (by have := (List.getElem?_eq_some_iff.mp hx).1; omega)) (fun H' ⟨s, zs, as, hz, hA, hl, hS⟩ => fin D H' zs as hD s hz hA hl hS)
theorem comp_LA {a : Addr} {xs : List V} (st : Stay P) (hT : H1 a = some (.lst xs)) (hn : xs.length < 2 ^ 20)
    (turn : ∀ i x H', xs[i]? = some x → Same H1 H' → ∀ Qo : VK, (∀ H2 y a, Same H' H2 → P H2 y a → S i a → Qo y H2) → g x (wipe σ vs) H' fun σ2 H2 => wipe σ2 vs = wipe σ vs ∧ te σ2 H2 Qo)
    (fin : ∀ D H' zs as, H1 D = none → Same H1 H' → H' D = some (.lst zs) → All2 (P H') zs as → as.length = xs.length → (∀ (k : Nat) (a : α), as[k]? = some a → S k a) → Q (.ref D) H') : LcW (Itl K a) H1 g tYes te vs σ Q := fun D hD =>
  lc_list (xs := xs) (BI P S H1 D) (BI.zero hD) (fun i H' _ p => sqL_of (p.1 _ _ hT)) (fun i x H' hx p => turn i x H' hx p.1 _ fun H2 y a s hp hs => p.step st hD s hp hs (by have := (List.getElem?_eq_some_iff.mp hx).1; omega)) (fun H' ⟨s, zs, as, hz, hA, hl, hS⟩ => fin D H' zs as hD s hz hA hl hS)
/-- over zip of two of one length -/
theorem comp_ZA {b1 b2 : Bool} {a b : Addr} {xs ys : List V} (st : Stay P) (h1 : H1 a = some (if b1 then .lst xs else .tup xs)) (h2 : H1 b = some (if b2 then .lst ys else .tup ys)) (hl : xs.length = ys.length) (hn : xs.length < 2 ^ 20)
    (turn : ∀ i x y T H', xs[i]? = some x → ys[i]? = some y → Same H1 H' → H' T = some (.tup [x, y]) → ∀ Qo : VK, (∀ H2 y a, Same H' H2 → P H2 y a → S i a → Qo y H2) → g (.ref T) (wipe σ vs) H' fun σ2 H2 => wipe σ2 vs = wipe σ vs ∧ te σ2 H2 Qo)
    (fin : ∀ D H' zs as, H1 D = none → Same H1 H' → H' D = some (.lst zs) → All2 (P H') zs as → as.length = xs.length → (∀ (k : Nat) (a : α), as[k]? = some a → S k a) → Q (.ref D) H') : LcW (ItzB b1 b2 K a b) H1 g tYes te vs σ Q :=
  comp_zB (xs := xs) (ys := ys) (n := xs.length) (by omega) (fun D i H' => BI P S H1 D i H') (fun D hD => BI.zero hD) (fun D i H p => ⟨sqB_same (p.1 _ _ h1), sqB_same (p.1 _ _ h2)⟩)
    (fun D i x y T H' hD hx hy p hT => turn i x y T _ hx hy (p.1.trans (same_upd hT)) upd_same _ fun H2 v a s hp hs => p.step st hD ((same_upd hT).trans s) hp hs (by have := (List.getElem?_eq_some_iff.mp hx).1; omega))
    (fun D H' hD ⟨s, zs, as, hz, hA, hl, hS⟩ => fin D H' zs as hD s hz hA hl hS)
end
def turnQ (qss : List (List (Int × Int))) (W : Nat) : List (List (Int × Int)) := (List.range W).map fun j => qss.map fun qs => qs.getD j (0, 1)
theorem tab_w {H : Hp} {g : Int} {v : V} {qss : List (List (Int × Int))} {W : Nat} (h : TabN H g v qss) (h1 : 1 ≤ qss.length) (hW : ∀ qs ∈ qss, qs.length = W) {K : PySem.W.Frag} {Q : VK} (q : Q (.int (W : Int)) H) : rIxA K v (.int 0) H fun x H1 => rLenU K [x] H1 Q := by
  obtain ⟨T, xs, rfl, hT, hA⟩ := h
  have h0 : 0 < xs.length := by rw [hA.1]; exact h1
  obtain ⟨qs, hqs, T2, ys, e, hT2, hy⟩ := hA.get (List.getElem?_eq_getElem h0)
  refine ixT (sqT_of hT) (v := .ref T2) (atN (i := 0) (by rw [List.getElem?_eq_getElem h0, e])) ?_
  refine lenT (sqT_of hT2) ?_
  rw [hy.1, hW qs (List.mem_of_getElem? hqs)]
  exact q
theorem RowN.ix {K : PySem.W.Frag} {H : Hp} {g : Int} {v : V} {qs : List (Int × Int)} (h : RowN H g v qs) {j : Nat} {q : Int × Int} (hq : qs[j]? = some q) {Q : VK} (k : ∀ z, NumR H g z q.1 q.2 → Q z H) : rIxA K v (.int (j : Int)) H Q := by
  obtain ⟨T, xs, rfl, hT, hA⟩ := h
  have hj := (List.getElem?_eq_some_iff.mp hq).1
  have hx := List.getElem?_eq_getElem (show j < xs.length by rw [hA.1]; exact hj)
  exact ixT (sqT_of hT) (atN hx) (k _ (hA.2 j _ q hx hq))
section
variable {F : Type} [Lean.Grind.Field F]
def rowF (F : Type) [Lean.Grind.Field F] (qs : List (Int × Int)) : Nat → F := fun j => (qs.map fun q => Lin.val F q.1 q.2).getD j 0
theorem rowF_at {qs : List (Int × Int)} {j : Nat} {q : Int × Int} (h : qs[j]? = some q) : rowF F qs j = Lin.val F q.1 q.2 := by
  unfold rowF
  rw [List.getD_eq_getElem?_getD, List.getElem?_map, h]; rfl
theorem rowF_no {qs : List (Int × Int)} {j : Nat} (h : qs.length ≤ j) : rowF F qs j = 0 := by
  unfold rowF
  rw [List.getD_eq_getElem?_getD, List.getElem?_map, List.getElem?_eq_none h]; rfl
def atF (F : Type) [Lean.Grind.Field F] (qss : List (List (Int × Int))) (i j : Nat) : F := rowF F (qss.getD i []) j
theorem atF_at {qss : List (List (Int × Int))} {i : Nat} {qs : List (Int × Int)} (h : qss[i]? = some qs) : atF F qss i = rowF F qs := by
  unfold atF
  rw [Lin.getD_some h]
end
theorem takes_len {X : Cx} {W : WX} (tk : Takes X W) : Takes X (fun cls d σ H => σ.length = X.N.length → W cls d σ H) := fun u s' ⟨a, B, sI, pins, σ, H, cls, d, e, I, nb, up, sky, na, os, ag, w⟩ =>
  tk u s' ⟨a, B, sI, pins, σ, H, cls, d, e, I, nb, up, sky, na, os, ag, w I.len⟩
/-- a list or a tuple of numbers; a list of lists or a tuple of tuples -/
def SeqP (H : Hp) (g : Int) (b : Bool) (v : V) (qs : List (Int × Int)) : Prop := ∃ a xs, v = .ref a ∧ H a = some (if b then .lst xs else .tup xs) ∧ All2 (fun v q => NumR H g v q.1 q.2) xs qs
theorem SeqP.same {H H' : Hp} {g : Int} {b : Bool} {v : V} {qs : List (Int × Int)} (h : SeqP H g b v qs) (s : Same H H') : SeqP H' g b v qs := by
  obtain ⟨a, xs, e, h, r⟩ := h
  exact ⟨a, xs, e, s _ _ h, r.imp fun v q n => n.same s⟩
def TabP (H : Hp) (g : Int) (b : Bool) (v : V) (qss : List (List (Int × Int))) : Prop := ∃ T xs, v = .ref T ∧ H T = some (if b then .lst xs else .tup xs) ∧ All2 (SeqP H g b) xs qss
theorem TabN.p {H : Hp} {g : Int} {v : V} {qss : List (List (Int × Int))} (h : TabN H g v qss) : TabP H g false v qss := h
theorem comp_BF {K : PySem.W.Frag} {b : Bool} {a : Addr} {xs : List V} {g : TG} {tt : TT} {te : TE} {vs : List Nat} {σ : St} {H1 : Hp} {Q : VK} (hT : H1 a = some (if b then .lst xs else .tup xs)) (outs : Nat → Option V) (hn : xs.length < 2 ^ 22)
    (turn : ∀ i x H', xs[i]? = some x → Same H1 H' → ∀ Qo : Option V → Hp → Prop, (∀ H2, Same H' H2 → Qo (outs i) H2) → g x (wipe σ vs) H' fun σ2 H2 => wipe σ2 vs = wipe σ vs ∧ tt σ2 H2 fun b H3 => if b = true then te σ2 H3 fun y H4 => Qo (some y) H4 else Qo none H3)
    (fin : ∀ D H', H1 D = none → Same H1 H' → H' D = some (.lst (outL outs xs.length)) → Q (.ref D) H') : LcW (ItB b K a) H1 g tt te vs σ Q := by
  cases b
  · exact comp_TF hT outs hn turn fin
  · exact comp_LF (sqL_of hT) outs hn turn fin
theorem lc_B {K : PySem.W.Frag} {b : Bool} {a : Addr} {xs : List V} {g : TG} {tt : TT} {te : TE} {vs : List Nat} {σ : St} {H1 : Hp} {Q : VK} (Pv : Addr → Nat → Hp → Prop) (h0 : ∀ D, H1 D = none → Pv D 0 (upd H1 D (.lst []))) (hl : ∀ D i H, Pv D i H → H a = some (if b then .lst xs else .tup xs))
    (hs : ∀ D i x H, H1 D = none → xs[i]? = some x → Pv D i H → g x (wipe σ vs) H fun σ2 H2 => wipe σ2 vs = wipe σ vs ∧ tt σ2 H2 fun b H3 => if b = true then te σ2 H3 fun y H4 => OutOf D (Pv D (i + 1)) (some y) H4 else Pv D (i + 1) H3)
    (hd : ∀ D H, H1 D = none → Pv D xs.length H → Q (.ref D) H) : LcW (ItB b K a) H1 g tt te vs σ Q := fun D hD => by
  cases b
  · exact lc_tup (xs := xs) (Pv D) (h0 D hD) (fun i H _ p => sqT_of (hl D i H p)) (fun i x H hx p => hs D i x H hD hx p) (fun H p => hd D H hD p)
  · exact lc_list (xs := xs) (Pv D) (h0 D hD) (fun i H _ p => sqL_of (hl D i H p)) (fun i x H hx p => hs D i x H hD hx p) (fun H p => hd D H hD p)
theorem _root_.PySem.ZExc.fnOk_reason : PySem.ZExc.FnOk1 ("reason" : Str) := ⟨by decide, fun _ _ _ _ => by kernel_rfl, fun _ _ _ _ => by kernel_rfl, fun _ _ => by kernel_rfl, fun _ _ _ _ _ _ => by kernel_rfl, fun _ _ _ _ _ _ => by kernel_rfl, fun _ _ _ _ _ _ _ _ _ _ _ _ _ _ _ => by with_unfolding_all rfl⟩
def dotI (ns ms : List Int) : Int := (List.zipWith (fun n m => n * m) ns ms).sum
theorem comp_ZF {K : PySem.W.Frag} {b1 b2 : Bool} {a b : Addr} {xs ys : List V} {g : TG} {tt : TT} {te : TE} {vs : List Nat} {σ : St} {H1 : Hp} {Q : VK} (h1 : H1 a = some (if b1 then .lst xs else .tup xs)) (h2 : H1 b = some (if b2 then .lst ys else .tup ys)) (hl : xs.length = ys.length) (outs : Nat → Option V) (hn : xs.length < 2 ^ 22)
    (turn : ∀ i x y T H', xs[i]? = some x → ys[i]? = some y → Same H1 H' → H' T = some (.tup [x, y]) → ∀ Qo : Option V → Hp → Prop, (∀ H2, Same H' H2 → Qo (outs i) H2) → g (.ref T) (wipe σ vs) H' fun σ2 H2 => wipe σ2 vs = wipe σ vs ∧ tt σ2 H2 fun b H3 => if b = true then te σ2 H3 fun y H4 => Qo (some y) H4 else Qo none H3)
    (fin : ∀ D H', H1 D = none → Same H1 H' → H' D = some (.lst (outL outs xs.length)) → Q (.ref D) H') : LcW (ItzB b1 b2 K a b) H1 g tt te vs σ Q :=
  comp_zB (xs := xs) (ys := ys) (n := xs.length) (by omega) (fun D i H' => Same H1 H' ∧ H' D = some (.lst (outL outs i))) (fun D hD => ⟨same_upd hD, upd_same⟩) (fun D i H p => ⟨sqB_same (p.1 _ _ h1), sqB_same (p.1 _ _ h2)⟩)
    (fun D i x y T H' hD hx hy p hT => turn i x y T _ hx hy (p.1.trans (same_upd hT)) upd_same (OutOf D fun H' => Same H1 H' ∧ H' D = some (.lst (outL outs (i + 1)))) fun H2 s => out_ok hD outs (List.getElem?_eq_some_iff.mp hx).1 hn p ((same_upd hT).trans s))
    (fun D H' hD p => fin D H' hD p.1 p.2)
def unitQ (n : Nat) : List (List (Int × Int)) := (List.range n).map fun i => (List.range n).map fun j => (if i = j then ((1 : Int), (1 : Int)) else (0, 1))
theorem seq_bot {H : Hp} {g : Int} {b : Bool} {v : V} {qs : List (Int × Int)} (h : SeqP H g b v qs) : ∀ q ∈ qs, 1 ≤ q.2 ∧ (g ≠ 0 → q.2 = 1 ∧ 0 ≤ q.1 ∧ q.1 < g) := fun q hq => by
  obtain ⟨T, xs, _, _, hA⟩ := h
  obtain ⟨i, hi⟩ := List.mem_iff_getElem?.mp hq
  have hlt := (List.getElem?_eq_some_iff.mp hi).1
  exact num_bot (hA.2 i _ q (List.getElem?_eq_getElem (by rw [hA.1]; exact hlt)) hi)
/-- over a list or a tuple, what is laid being told apart from the new list D -/
theorem comp_BD {α : Type} {P : Addr → Hp → V → α → Prop} {S : Nat → α → Prop} {K : PySem.W.Frag} {b : Bool} {a : Addr} {xs : List V} {g : TG} {te : TE} {vs : List Nat} {σ : St} {H1 : Hp} {Q : VK}
    (same : ∀ {D : Addr} {H H' : Hp} {v : V} {c : α}, P D H v c → Same H H' → P D H' v c) (upd' : ∀ {D : Addr} {H : Hp} {zs : List V} {o : HO} {v : V} {c : α}, P D H v c → H D = some (.lst zs) → P D (L2.upd H D o) v c)
    (hT : H1 a = some (if b then .lst xs else .tup xs)) (hn : xs.length < 2 ^ 20)
    (turn : ∀ D i x H', H1 D = none → (∃ zs, H' D = some (.lst zs)) → xs[i]? = some x → Same H1 H' → ∀ Qo : VK, (∀ H2 y c, Same H' H2 → P D H2 y c → S i c → Qo y H2) → g x (wipe σ vs) H' fun σ2 H2 => wipe σ2 vs = wipe σ vs ∧ te σ2 H2 Qo)
    (fin : ∀ D H' zs cs, H1 D = none → Same H1 H' → H' D = some (.lst zs) → All2 (P D H') zs cs → cs.length = xs.length → (∀ (k : Nat) (c : α), cs[k]? = some c → S k c) → Q (.ref D) H') : LcW (ItB b K a) H1 g tYes te vs σ Q := by
  refine lc_B (xs := xs) (fun D i H' => Same H1 H' ∧ ∃ (zs : List V) (cs : List α), H' D = some (.lst zs) ∧ All2 (P D H') zs cs ∧ cs.length = i ∧ ∀ (k : Nat) (c : α), cs[k]? = some c → S k c) (fun D hD => ⟨same_upd hD, [], [], upd_same, ⟨rfl, fun i v q a b => by simp at a⟩, rfl, fun k c h => by simp at h⟩)
    (fun D i H' p => p.1 _ _ hT) (fun D i x H' hD hx p => ?_) (fun D H' hD p => ?_)
  · obtain ⟨s1, zs, cs, hz, hA, hl, hS⟩ := p
    refine turn D i x H' hD ⟨zs, hz⟩ hx s1 _ fun H2 y c s hp hs => ?_
    have hi := (List.getElem?_eq_some_iff.mp hx).1
    refine ⟨zs, s _ _ hz, by rw [hA.1, hl]; exact Nat.lt_of_lt_of_le (show i < 2 ^ 20 by omega) (by decide), same_mutD (s1.trans s) hD, zs ++ [y], cs ++ [c], upd_same, (hA.imp fun v q n => upd' (same n s) (s _ _ hz)).push (upd' hp (s _ _ hz)), by simp [hl], fun k e hk => ?_⟩
    by_cases hlt : k < cs.length
    · rw [List.getElem?_append_left hlt] at hk
      exact hS k e hk
    · have h2 := (List.getElem?_eq_some_iff.mp hk).1
      simp at h2
      have e2 : k = cs.length := by omega
      subst e2
      rw [List.getElem?_append_right (Nat.le_refl _)] at hk
      simp at hk
      subst hk
      rw [hl]; exact hs
  · obtain ⟨s1, zs, cs, hz, hA, hl, hS⟩ := p
    exact fin D H' zs cs hD s1 hz hA hl hS
/-- what whole_row gives: integers and a bottom -/
def WP (D : Addr) (H : Hp) (v : V) (c : List Int × Int) : Prop := ∃ p L, v = .ref p ∧ L ≠ D ∧ H p = some (.tup [.ref L, .int c.2]) ∧ H L = some (.lst (c.1.map V.int))
theorem WP.same {D : Addr} {H H' : Hp} {v : V} {c : List Int × Int} (h : WP D H v c) (s : Same H H') : WP D H' v c := by
  obtain ⟨p, L, e, n, h1, h2⟩ := h
  exact ⟨p, L, e, n, s _ _ h1, s _ _ h2⟩
theorem WP.upd {D : Addr} {H : Hp} {zs : List V} {o : HO} {v : V} {c : List Int × Int} (h : WP D H v c) (hD : H D = some (.lst zs)) : WP D (L2.upd H D o) v c := by
  obtain ⟨p, L, e, n, h1, h2⟩ := h
  exact ⟨p, L, e, n, by rw [upd_ne (fun e2 => by rw [e2, hD] at h1; cases h1)]; exact h1, by rw [upd_ne n]; exact h2⟩
/-- c are the integers and the bottom of the row qs -/
def WQ (qs : List (Int × Int)) (c : List Int × Int) : Prop := c.1 = qs.map (fun q => q.1 * (c.2 / q.2)) ∧ 1 ≤ c.2 ∧ (∀ q ∈ qs, q.2 ∣ c.2) ∧ c.2 ≤ prI (qs.map (·.2))
def sp_whole_row (K : PySem.W.Frag) : Sp := fun vs H Q _ => ∃ (g : Int) (T : Addr) (xs : List V) (qs : List (Int × Int)) (b : Bool), vs = [.int g, .ref T] ∧ H T = some (if b then .lst xs else .tup xs) ∧ All2 (fun v q => NumR H g v q.1 q.2) xs qs ∧ qs.length < 2 ^ 22 ∧
  Sz 8000 (prI (qs.map (·.2))) ∧ (∀ q ∈ qs, Sz 8000 q.1) ∧
  ∀ p L B H', H L = none → Same H H' → H' p = some (.tup [.ref L, .int B]) → H' L = some (.lst ((qs.map fun q => q.1 * (B / q.2)).map V.int)) → 1 ≤ B → (∀ q ∈ qs, q.2 ∣ B) → B ≤ prI (qs.map (·.2)) → Q (.ref p) H'
theorem len_whole_row {K : PySem.W.Frag} {vs : List V} {H : Hp} {Q : VK} {E : XK} (h : sp_whole_row K vs H Q E) : vs.length = ["ground", "numbers"].length := by
  obtain ⟨_, _, _, _, _, rfl, _⟩ := h
  rfl
def t_whole_row (K : PySem.W.Frag) : TS := (tSeq (tAsg (tCall (sp_common_multiple K) [] E0 (tCons (tLc (iSeqB K (tVar 1)) (gName 3) tYes (tCall (sp_bottom_of K) [] E0 (tCons (tVar 0) (tCons (tVar 3) tNil))) [3]) tNil)) (gName 2))
  (tRet (tTup (tCons (tLc (iSeqB K (tVar 1)) (gName 3) tYes (tOp rMulU (tCall (sp_top_of K) [] E0 (tCons (tVar 0) (tCons (tVar 3) tNil))) (tOp rDivU (tVar 2) (tCall (sp_bottom_of K) [] E0 (tCons (tVar 0) (tCons (tVar 3) tNil))))) [3]) (tCons (tVar 2) tNil)))))
theorem pure_whole_row (K : PySem.W.Frag) (vs : List V) (H : Hp) (Q : VK) (E : XK) (h : sp_whole_row K vs H Q E) : t_whole_row K { nx := fun _ H' => Q .non H', rt := Q } (start ["ground", "numbers", "bottom", "number"] vs) H := by
  obtain ⟨g, T, xs, qs, b, rfl, hT, hA, hl, hs, hs1, hq⟩ := h
  have hxl : xs.length = qs.length := hA.1
  have hb1 : ∀ n ∈ qs.map (·.2), 1 ≤ n := fun n hn => by
    obtain ⟨q, hq, rfl⟩ := List.mem_map.mp hn
    obtain ⟨i, hi⟩ := List.mem_iff_getElem?.mp hq
    have hlt := (List.getElem?_eq_some_iff.mp hi).1
    rcases hA.2 i _ q (List.getElem?_eq_getElem (by omega)) hi with ⟨_, _, h, _⟩ | ⟨_, _, h, _⟩ <;> omega
  unfold t_whole_row
  walk_at "z"
  refine ⟨T, b, rfl, ⟨_, sqB_same hT⟩, comp_BF hT (fun i => (qs[i]?).map fun q => V.int q.2) (by omega) (fun i x H' hx s Qo hQo => ?_) (fun L H1 _ s1 hL => ?_)⟩
  · obtain ⟨q, hq', hr⟩ := hA.get hx
    walk_at "z"
    refine ⟨g, x, q.1, q.2, rfl, hr.same s, ?_⟩
    have := hQo H' (Same.refl _)
    rw [hq'] at this
    exact this
  · rw [outL_get qs _ hxl] at hL
    refine ⟨L, qs.map (·.2), rfl, sqL_of (by rw [hL, List.map_map]; rfl), hb1, hs, fun B hB hd hle => ?_⟩
    have szB : Sz 8000 B := sz_le hs (by omega)
    refine ⟨T, b, rfl, ⟨_, sqB_same (s1 _ _ hT)⟩, comp_BF (s1 _ _ hT) (fun i => (qs[i]?).map fun q => V.int (q.1 * (B / q.2))) (by omega) (fun i x H' hx s Qo hQo => ?_) (fun L2 H2 hLn s2 hL2 => ?_)⟩
    · obtain ⟨q, hq', hr⟩ := hA.get hx
      have hm := List.mem_of_getElem? hq'
      have hq2 := hb1 q.2 (List.mem_map_of_mem (f := fun q : Int × Int => q.2) hm)
      have hdq := hd q.2 (List.mem_map_of_mem (f := fun q : Int × Int => q.2) hm)
      have leq : q.2 ≤ B := Int.le_of_dvd (by omega) hdq
      walk_at "z"
      refine ⟨g, x, q.1, q.2, rfl, (hr.same s1).same s, ?_⟩
      refine ⟨g, x, q.1, q.2, rfl, (hr.same s1).same s, ?_⟩
      walk_at "z"
      refine ⟨wide_div (b := 8000) (by omega) (Nat.lt_of_le_of_lt (by omega) szB) (by decide) (by decide), ?_⟩
      have szd : Sz 8000 (B / q.2) := sz_le szB (by
        have h1 := Int.ediv_nonneg (show 0 ≤ B by omega) (show 0 ≤ q.2 by omega)
        have h2 := Int.ediv_le_self q.2 (show 0 ≤ B by omega)
        omega)
      refine ⟨mulW (hs1 q hm) szd (by decide) (by decide) (by decide), ?_⟩
      have := hQo H' (Same.refl _)
      rw [hq'] at this
      exact this
    · rw [outL_get qs _ hxl] at hL2
      refine ⟨by decide, fun p hp => ?_⟩
      refine hq p L2 B _ (none_back s1 hLn) ((s1.trans s2).trans (same_upd hp)) upd_same (same_upd hp _ _ (by rw [hL2, List.map_map]; rfl)) hB (fun q hm => hd _ (List.mem_map_of_mem (f := fun q : Int × Int => q.2) hm)) hle
theorem ok_whole_row {P : Program} {w : World} {K : PySem.W.Frag} {mg : Str → Option Value} {base : Heap} (T : Tx K mg) : Okk P w K mg base 2 "whole_row" ["ground", "numbers"] (sp_whole_row K) := by
  obtain ⟨fd_common_multiple, F_common_multiple, b_common_multiple, g_common_multiple, k_common_multiple⟩ := ok_common_multiple (P := P) (w := w) (base := base) T
  obtain ⟨fd_top_of, F_top_of, b_top_of, g_top_of, k_top_of⟩ := ok_top_of (P := P) (w := w) (base := base) T
  obtain ⟨fd_bottom_of, F_bottom_of, b_bottom_of, g_bottom_of, k_bottom_of⟩ := ok_bottom_of (P := P) (w := w) (base := base) T
  obtain ⟨fd, F⟩ := T.f_whole_row
  refine ⟨fd, F.ok sc_whole_row (fun vs H Q E h => len_whole_row h) (fun cdv A outer s H vs Q E hr h => ⟨t_whole_row K, PSs.nox ?_, pure_whole_row K vs H Q E h⟩), F.bindsN (fun _ _ _ _ _ _ us hl => match us, hl with | [_, _], _ => rfl), T.g_whole_row, F.kp⟩
  exact (pss_cons (ps_set (i := 2) sc_whole_row.nd rfl (by first | exact Or.inl rfl | exact Or.inr rfl) (pe_call F_common_multiple (hr.mono (by decide)) rfl g_common_multiple k_common_multiple b_common_multiple .nil pass0 (pa_cons (pe_lc (own := [("number", 3)]) (g := (gName 3)) (tt := tYes) rfl sc_whole_row.nd (pi_seqB (pv 1)) (blkOk_by (own := [("number", 3)]) (N := ["ground", "numbers", "bottom", "number"]) (sc := defScope s_whole_row) (by decide +kernel)) (fun _ _ _ _ _ => (pg_name (i := 3) sc_whole_row.nd rfl (by first | exact Or.inl rfl | exact Or.inr rfl))) (fun _ _ _ _ _ => pts_nil) (fun _ _ _ _ _ => (pe_call F_bottom_of (hr.mono (by decide)) rfl g_bottom_of k_bottom_of b_bottom_of .nil pass0 (pa_cons (pv 0) (pa_cons (pv 3) pa_nil))))) pa_nil)))
      (pss_one (ps_ret (pe_tup (pa_cons (pe_lc (own := [("number", 3)]) (g := (gName 3)) (tt := tYes) rfl sc_whole_row.nd (pi_seqB (pv 1)) (blkOk_by (own := [("number", 3)]) (N := ["ground", "numbers", "bottom", "number"]) (sc := defScope s_whole_row) (by decide +kernel)) (fun _ _ _ _ _ => (pg_name (i := 3) sc_whole_row.nd rfl (by first | exact Or.inl rfl | exact Or.inr rfl))) (fun _ _ _ _ _ => pts_nil) (fun _ _ _ _ _ => (pe_op op_mulU (pe_call F_top_of (hr.mono (by decide)) rfl g_top_of k_top_of b_top_of .nil pass0 (pa_cons (pv 0) (pa_cons (pv 3) pa_nil))) (pe_op op_fdivW (pv 2) (pe_call F_bottom_of (hr.mono (by decide)) rfl g_bottom_of k_bottom_of b_bottom_of .nil pass0 (pa_cons (pv 0) (pa_cons (pv 3) pa_nil))))))) (pa_cons (pv 2) pa_nil))))))
/-! ### sign_of_difference -/
theorem sc_sign_of_difference : FnScope ["one", "other"] ["one", "other"] (defScope s_sign_of_difference) := ⟨rfl, rfl, rfl, by decide +kernel, rfl, by decide +kernel, by decide +kernel⟩
def sp_sign_of_difference (K : PySem.W.Frag) : Sp := fun vs H Q _ => ∃ (v w : V) (a b c d : Int), vs = [v, w] ∧ NumR H 0 v a b ∧ NumR H 0 w c d ∧ Sz 3000 a ∧ Sz 3000 b ∧ Sz 3000 c ∧ Sz 3000 d ∧ Q (.int (if a * d = c * b then 0 else if a * d < c * b then -1 else 1)) H
theorem len_sign_of_difference {K : PySem.W.Frag} {vs : List V} {H : Hp} {Q : VK} {E : XK} (h : sp_sign_of_difference K vs H Q E) : vs.length = ["one", "other"].length := by
  obtain ⟨_, _, _, _, _, _, rfl, _⟩ := h
  rfl
def t_sign_of_difference (K : PySem.W.Frag) : TS := (tRet (tCall (sp_sign_of K) [] E0 (tCons (tOp rSub (tOp rMulU (tOp (rIxA K) (tVar 0) (tC (.int 0))) (tOp (rIxA K) (tVar 1) (tC (.int 1)))) (tOp rMulU (tOp (rIxA K) (tVar 1) (tC (.int 0))) (tOp (rIxA K) (tVar 0) (tC (.int 1))))) tNil)))
theorem pure_sign_of_difference (K : PySem.W.Frag) (vs : List V) (H : Hp) (Q : VK) (E : XK) (h : sp_sign_of_difference K vs H Q E) : t_sign_of_difference K { nx := fun _ H' => Q .non H', rt := Q } (start ["one", "other"] vs) H := by
  obtain ⟨v, w, a, b, c, d, rfl, n1, n2, sa, sb, sc, sd, hq⟩ := h
  unfold t_sign_of_difference
  walk_at "z"
  rcases n1 with ⟨_, ⟨p, rfl, hp⟩, b1, _⟩ | ⟨h, _⟩
  rotate_left
  · exact absurd rfl h
  rcases n2 with ⟨_, ⟨q, rfl, hp2⟩, d1, _⟩ | ⟨h, _⟩
  rotate_left
  · exact absurd rfl h
  refine ixT (sqT_of hp) (v := .int a) rfl ?_
  refine ixT (sqT_of hp2) (v := .int d) rfl ?_
  walk_at "z"
  refine ⟨szm sa sd, ixT (sqT_of hp2) (v := .int c) rfl ?_⟩
  refine ixT (sqT_of hp) (v := .int b) rfl ?_
  walk_at "z"
  refine ⟨szm sc sb, _, rfl, ?_⟩
  have e1 : (a * d - c * b = 0) = (a * d = c * b) := propext ⟨fun h => by omega, fun h => by omega⟩
  have e2 : (a * d - c * b < 0) = (a * d < c * b) := propext ⟨fun h => by omega, fun h => by omega⟩
  simp only [e1, e2]
  exact hq
theorem ok_sign_of_difference {P : Program} {w : World} {K : PySem.W.Frag} {mg : Str → Option Value} {base : Heap} (T : Tx K mg) : Okk P w K mg base 2 "sign_of_difference" ["one", "other"] (sp_sign_of_difference K) := by
  obtain ⟨fd_sign_of, F_sign_of, b_sign_of, g_sign_of, k_sign_of⟩ := ok_sign_of (P := P) (w := w) (base := base) T
  obtain ⟨fd, F⟩ := T.f_sign_of_difference
  refine ⟨fd, F.ok sc_sign_of_difference (fun vs H Q E h => len_sign_of_difference h) (fun cdv A outer s H vs Q E hr h => ⟨t_sign_of_difference K, PSs.nox ?_, pure_sign_of_difference K vs H Q E h⟩), F.bindsN (fun _ _ _ _ _ _ us hl => match us, hl with | [_, _], _ => rfl), T.g_sign_of_difference, F.kp⟩
  exact (pss_one (ps_ret (pe_call F_sign_of (hr.mono (by decide)) rfl g_sign_of k_sign_of b_sign_of .nil pass0 (pa_cons (pe_op op_sub (pe_op op_mulU (pe_ix ix_lt (pv 0) pe_int (fun _ _ => rfl)) (pe_ix ix_lt (pv 1) pe_int (fun _ _ => rfl))) (pe_op op_mulU (pe_ix ix_lt (pv 1) pe_int (fun _ _ => rfl)) (pe_ix ix_lt (pv 0) pe_int (fun _ _ => rfl)))) pa_nil))))
/-! ### sign_at -/
theorem sc_sign_at : FnScope ["inner", "end", "far", "numbers", "turn", "value", "bottom", "number"] ["inner", "end", "far"] (defScope s_sign_at) := ⟨rfl, rfl, rfl, by decide +kernel, rfl, by decide +kernel, by decide +kernel⟩
theorem smB_sz {x : Int} (h : smB x = true) : Sz 1500 x := by
  have h2 : x.natAbs < 2 ^ 1500 := by unfold smB at h; exact of_decide_eq_true h
  exact h2
theorem ipOk_len {p : Ip} (h : ipOk p = true) : p.1.length < 30 := by
  simp only [ipOk, Bool.and_eq_true, decide_eq_true_eq] at h; exact h.1.1.1.1
theorem ipOk_all {p : Ip} (h : ipOk p = true) : ∀ n ∈ p.1, Sz 1500 n := by
  simp only [ipOk, Bool.and_eq_true, decide_eq_true_eq] at h
  exact fun n hn => smB_sz (List.all_eq_true.mp h.1.1.1.2 n hn)
theorem ipOk_bot {p : Ip} (h : ipOk p = true) : Sz 1500 p.2 ∧ p.2 ≠ 0 := by
  simp only [ipOk, Bool.and_eq_true, decide_eq_true_eq] at h
  exact ⟨smB_sz h.1.1.2, h.1.2⟩
theorem ipOk_last {p : Ip} (h : ipOk p = true) : (p.1 = [] ∧ p.2 = 1) ∨ ∃ low lead, p.1 = low ++ [lead] ∧ lead ≠ 0 ∧ p.1.getLastD 0 = lead ∧ p.1.dropLast = low := by
  simp only [ipOk, Bool.and_eq_true, decide_eq_true_eq] at h
  have h := h.2
  by_cases e : p.1 = []
  · rw [e] at h
    exact .inl ⟨e, by simpa using h⟩
  · refine .inr ⟨p.1.dropLast, p.1.getLast e, (List.dropLast_concat_getLast e).symm, ?_, ?_, rfl⟩
    · rw [List.getLast?_eq_some_getLast e] at h
      simpa using h
    · rw [List.getLastD_eq_getLast?, List.getLast?_eq_some_getLast e]; rfl
/-- an end of a stretch -/
def EndV (H : Hp) (v : V) : Option (Int × Int) → Prop
  | none => v = .non
  | some (a, b) => NumR H 0 v a b
theorem EndV.same {H H' : Hp} {v : V} {e : Option (Int × Int)} (h : EndV H v e) (s : Same H H') : EndV H' v e := by
  cases e with
  | none => exact h
  | some q => exact NumR.same h s
theorem szU {k : Nat} {x : Int} (h : Sz 1500 x) (hk : 1500 ≤ k) : Sz k x := sz_mono h hk
/-- a row of inner polys -/
def RowQ (K : PySem.W.Frag) (H : Hp) (xs : List V) (ps : List Ip) : Prop := xs.length = ps.length ∧ ∀ (i : Nat) (x : V) (p : Ip), xs[i]? = some x → ps[i]? = some p → InQ K H x p
theorem RowQ.same {K : PySem.W.Frag} {H H' : Hp} {xs : List V} {ps : List Ip} (h : RowQ K H xs ps) (s : Same H H') : RowQ K H' xs ps := ⟨h.1, fun i x p a b => InQ.same (h.2 i x p a b) s⟩
/-- a step of a chain -/
def StepV (K : PySem.W.Frag) (H : Hp) (v : V) : Prop := ∃ a x y p, v = .ref a ∧ H a = some (.tup [x, y]) ∧ InQ K H x p ∧ ipOk p = true
theorem StepV.same {K : PySem.W.Frag} {H H' : Hp} {v : V} (h : StepV K H v) (s : Same H H') : StepV K H' v := by
  obtain ⟨a, x, y, p, e, h, i, o⟩ := h
  exact ⟨a, x, y, p, e, s _ _ h, i.same s, o⟩
def ChainV (K : PySem.W.Frag) (H : Hp) (v : V) (p : Ip) : Prop := ∃ T c A S xs ss, v = .ref T ∧ H T = some (.tup [c, .ref A, .ref S]) ∧ InQ K H c (comOf p) ∧ H A = some (.lst xs) ∧ RowQ K H xs (chainRow p) ∧ H S = some (.lst ss) ∧ ss.length < 40 ∧ ∀ s ∈ ss, StepV K H s
theorem ChainV.same {K : PySem.W.Frag} {H H' : Hp} {v : V} {p : Ip} (h : ChainV K H v p) (s : Same H H') : ChainV K H' v p := by
  obtain ⟨T, c, A, S, xs, ss, e, h1, h2, h3, h4, h5, h6, h7⟩ := h
  exact ⟨T, c, A, S, xs, ss, e, s _ _ h1, h2.same s, s _ _ h3, h4.same s, s _ _ h5, h6, fun z hz => (h7 z hz).same s⟩
theorem EndV.num {H : Hp} {v : V} {a b : Int} (h : EndV H v (some (a, b))) : v ≠ .non ∧ ∃ p, v = .ref p ∧ H p = some (.tup [.int a, .int b]) := by
  rcases h with ⟨_, ⟨p, e, hp⟩, _⟩ | ⟨h0, _⟩
  · subst e
    exact ⟨fun h => (by cases h), p, rfl, hp⟩
  · exact absurd rfl h0
theorem drop_of_get {α : Type} {l : List α} {i : Nat} {x : α} (h : l[i]? = some x) : l.drop i = x :: l.drop (i + 1) := by
  obtain ⟨hi, e⟩ := List.getElem?_eq_some_iff.mp h
  rw [List.drop_eq_getElem_cons hi, e]
theorem get_back {ns : List Int} {i : Nat} {x : V} (hi : i < ns.length) (h : (ns.map V.int)[(ns.map V.int).length - 1 - i]? = some x) : ∃ n, ns.reverse[i]? = some n ∧ x = .int n := by
  rw [List.getElem?_map, List.length_map] at h
  obtain ⟨n, hn, rfl⟩ := Option.map_eq_some_iff.mp h
  exact ⟨n, by rw [List.getElem?_reverse hi]; exact hn, rfl⟩
theorem evalB_now {a b : Int} {l : List Int} {v t : Int} (h : evalB a b l v t = true) : Sz 1500 v ∧ Sz 1500 t := by
  cases l with
  | nil =>
    simp only [evalB, Bool.and_eq_true] at h
    exact ⟨smB_sz h.1, smB_sz h.2⟩
  | cons n l =>
    simp only [evalB, Bool.and_eq_true] at h
    exact ⟨smB_sz h.1.1, smB_sz h.1.2⟩
theorem sgn_le (n : Int) : (sgn n).natAbs ≤ 1 := by
  unfold sgn; split
  · decide
  · split <;> decide
theorem signQ_le {p : Ip} {e : Option (Int × Int)} {far : Int} (hf : far = 1 ∨ far = -1) : (signQ p e far).natAbs ≤ 1 := by
  cases e with
  | none =>
    show ((if (p.1.length : Int) % 2 = 0 then far else 1) * sgn (p.1.getLastD 0)).natAbs ≤ 1
    rw [Int.natAbs_mul]
    have h1 := sgn_le (p.1.getLastD 0)
    have h2 : (if (p.1.length : Int) % 2 = 0 then far else 1).natAbs = 1 := by
      split
      · rcases hf with rfl | rfl <;> rfl
      · rfl
    rw [h2, Nat.one_mul]
    exact h1
  | some q => exact sgn_le _
def sp_sign_at (K : PySem.W.Frag) : Sp := fun vs H Q _ => ∃ (v w : V) (p : Ip) (e : Option (Int × Int)) (far : Int), vs = [v, w, .int far] ∧ InQ K H v p ∧ EndV H w e ∧ signB p e = true ∧ (far = 1 ∨ far = -1) ∧ ∀ H', Same H H' → Q (.int (signQ p e far)) H'
theorem len_sign_at {K : PySem.W.Frag} {vs : List V} {H : Hp} {Q : VK} {E : XK} (h : sp_sign_at K vs H Q E) : vs.length = ["inner", "end", "far"].length := by
  obtain ⟨_, _, _, _, _, rfl, _⟩ := h
  rfl
def t_sign_at_f1_b (K : PySem.W.Frag) : TS := (tSeq (tAsg (tOp rAdd (tOp rMulU (tVar 5) (tOp (rIxA K) (tVar 1) (tC (.int 0)))) (tOp rMulU (tVar 7) (tVar 6))) (gName 5))
  (tAsg (tOp rMulU (tVar 6) (tOp (rIxA K) (tVar 1) (tC (.int 1)))) (gName 6)))
def t_sign_at (K : PySem.W.Frag) : TS := (tSeq (tAsg (tOp (rIxA K) (tVar 0) (tC (.int 0))) (gName 3))
  (tSeq (tIfS (tB (tIsN (tVar 1))) (tSeq (tAsg (tIf (tTest (tOp rEq (tOp rModU (tCB (rLenU K) (tCons (tVar 3) tNil)) (tC (.int 2))) (tC (.int 0)))) (tVar 2) (tC (.int 1))) (gName 4))
  (tRet (tOp rMulU (tVar 4) (tCall (sp_sign_of K) [] E0 (tCons (tOp (rIxA K) (tVar 3) (tUn rNeg (tC (.int 1)))) tNil))))) tNext)
  (tSeq (tAsg (tTup (tCons (tC (.int 0)) (tCons (tC (.int 1)) tNil))) (gTup K 2 (gCons (gName 5) (gCons (gName 6) gNil))))
  (tSeq (tFor (RT.iRevA K (tVar 3)) (gName 7) (t_sign_at_f1_b K))
  (tRet (tCall (sp_sign_of K) [] E0 (tCons (tVar 5) tNil)))))))
theorem pure_sign_at (K : PySem.W.Frag) (vs : List V) (H : Hp) (Q : VK) (E : XK) (h : sp_sign_at K vs H Q E) : t_sign_at K { nx := fun _ H' => Q .non H', rt := Q } (start ["inner", "end", "far", "numbers", "turn", "value", "bottom", "number"] vs) H := by
  obtain ⟨v, w, ⟨ns, b⟩, e, far, rfl, hv, he, hok, hf, hq⟩ := h
  simp only [signB, Bool.and_eq_true, decide_eq_true_eq] at hok
  obtain ⟨⟨okp, ne⟩, hB⟩ := hok
  have hlen : ns.length < 30 := ipOk_len okp
  have hall : ∀ n ∈ ns, Sz 1500 n := ipOk_all okp
  obtain ⟨low, lead, e1, lead0, e2, _⟩ := (ipOk_last okp).resolve_left fun h => ne h.1
  have e1 : ns = low ++ [lead] := e1
  have e2 : ns.getLastD 0 = lead := e2
  unfold t_sign_at
  walk_at "z"
  obtain ⟨a1, _, rfl, h1, A1, rfl, hA1⟩ := id hv
  refine ixT h1 (v := .ref A1) rfl ?_
  walk_at "z"
  cases e with
  | none =>
    obtain rfl : w = .non := he
    rw [if_pos rfl]
    refine lenT hA1 ?_
    walk_at "z"
    have em : ns.map V.int = low.map V.int ++ [V.int lead] := by rw [e1]; simp
    have fin : ∀ turn : Int, turn = (if (ns.length : Int) % 2 = 0 then far else 1) → (turn = 1 ∨ turn = -1) → Q (.int (turn * (if lead = 0 then 0 else if lead < 0 then -1 else 1))) H := fun turn ht _ => by
      have := hq H (Same.refl _)
      rw [show signQ (ns, b) none far = turn * (if lead = 0 then 0 else if lead < 0 then -1 else 1) by
        show (if (ns.length : Int) % 2 = 0 then far else 1) * sgn (ns.getLastD 0) = _
        rw [e2, ht]; rfl] at this
      exact this
    rw [List.length_map]
    by_cases hh : (ns.length : Int) % 2 = 0
    · rw [if_pos hh]
      walk_at "z"
      refine ⟨by decide, ?_⟩
      refine ixT hA1 (v := .int lead) (by rw [em]; exact L2.atI_last _ _) ?_
      refine ⟨lead, rfl, ?_⟩
      walk_at "z"
      refine ⟨mulS (by rcases hf with rfl | rfl <;> omega), ?_⟩
      exact fin far (by rw [if_pos hh]) hf
    · rw [if_neg hh]
      walk_at "z"
      refine ⟨by decide, ?_⟩
      refine ixT hA1 (v := .int lead) (by rw [em]; exact L2.atI_last _ _) ?_
      refine ⟨lead, rfl, ?_⟩
      walk_at "z"
      refine ⟨mulS (by omega), ?_⟩
      exact fin 1 (by rw [if_neg hh]) (.inl rfl)
  | some q =>
    obtain ⟨c, d⟩ := q
    obtain ⟨wn, W, rfl, hW⟩ := EndV.num he
    have hB : smB c = true ∧ smB d = true ∧ evalB c d ns.reverse 0 1 = true := by
      simp only [Bool.and_eq_true] at hB
      exact ⟨hB.1.1, hB.1.2, hB.2⟩
    obtain ⟨sc, sd, hE⟩ := hB
    have sc := smB_sz sc
    have sd := smB_sz sd
    rw [if_neg wn]
    walk_at "z"
    refine ⟨by decide, fun T hT => ?_⟩
    have f1 := same_upd (o := .tup [V.int 0, V.int 1]) hT
    have eT : upd H T (.tup [V.int 0, V.int 1]) T = some (.tup [V.int 0, V.int 1]) := upd_same
    generalize upd H T (.tup [V.int 0, V.int 1]) = G1 at *
    refine ⟨_, sqT_of eT, rfl, ?_⟩
    walk_at "z"
    refine ⟨A1, _, rfl, .inr ⟨sqT_up hA1 f1, for_RT (fun i σ H' => ∃ u t o7, σ = [some (.ref a1), some (.ref W), some (.int far), some (.ref A1), none, some (.int u), some (.int t), o7] ∧ H' = G1 ∧ evalGo c d (ns.reverse.drop i) u t = evalGo c d ns.reverse 0 1 ∧ evalB c d (ns.reverse.drop i) u t = true)
      ⟨0, 1, _, rfl, rfl, rfl, hE⟩ (fun i σ H' _ h => by obtain ⟨_, _, _, _, rfl, _⟩ := h; exact sqT_up hA1 f1) (fun i x σ H' hi hx h N hN => ?_) (fun σ H' h => ?_)⟩⟩
    · obtain ⟨u, t, o7, rfl, rfl, g1, g2⟩ := h
      obtain ⟨n, hn, rfl⟩ := get_back (by simpa using hi) hx
      rw [drop_of_get hn] at g1 g2
      obtain ⟨zu, zt⟩ := evalB_now g2
      have zn : Sz 1500 n := hall n (List.mem_reverse.mp (List.mem_of_getElem? hn))
      have g2 : evalB c d (ns.reverse.drop (i + 1)) (u * c + n * t) (t * d) = true := by
        simp only [evalB, Bool.and_eq_true] at g2
        exact g2.2
      unfold t_sign_at_f1_b
      walk_at "z"
      refine ixT (sqT_of (f1 _ _ hW)) (v := .int c) rfl ?_
      walk_at "z"
      refine ⟨mulW (a := 1500) (b := 1500) zu sc (by decide) (by decide) (by decide), ?_⟩
      refine ⟨mulW (a := 1500) (b := 1500) zn zt (by decide) (by decide) (by decide), ?_⟩
      walk_at "z"
      refine ixT (sqT_of (f1 _ _ hW)) (v := .int d) rfl ?_
      walk_at "z"
      refine ⟨mulW (a := 1500) (b := 1500) zt sd (by decide) (by decide) (by decide), ?_⟩
      exact hN _ _ ⟨_, _, _, rfl, rfl, g1, g2⟩
    · obtain ⟨u, t, o7, rfl, rfl, g1, g2⟩ := h
      rw [List.length_map, ← List.length_reverse, List.drop_length] at g1
      have g1 : u = evalGo c d ns.reverse 0 1 := g1
      walk_at "z"
      refine ⟨u, rfl, ?_⟩
      rw [g1]
      exact hq _ f1
theorem ok_sign_at {P : Program} {w : World} {K : PySem.W.Frag} {mg : Str → Option Value} {base : Heap} (T : Tx K mg) : Okk P w K mg base 2 "sign_at" ["inner", "end", "far"] (sp_sign_at K) := by
  obtain ⟨fd_sign_of, F_sign_of, b_sign_of, g_sign_of, k_sign_of⟩ := ok_sign_of (P := P) (w := w) (base := base) T
  have hf_len := T.n_len
  have hf_reversed := T.n_reversed
  obtain ⟨fd, F⟩ := T.f_sign_at
  refine ⟨fd, F.ok sc_sign_at (fun vs H Q E h => len_sign_at h) (fun cdv A outer s H vs Q E hr h => ⟨t_sign_at K, PSs.nox ?_, pure_sign_at K vs H Q E h⟩), F.bindsN (fun _ _ _ _ _ _ us hl => match us, hl with | [_, _, _], _ => rfl), T.g_sign_at, F.kp⟩
  exact (pss_cons (ps_set (i := 3) sc_sign_at.nd rfl (by first | exact Or.inl rfl | exact Or.inr rfl) (pe_ix ix_lt (pv 0) pe_int (fun _ _ => rfl)))
      (pss_cons (ps_if (pt_cmp (pc_isN (pv 1))) (pss_cons (ps_set (i := 4) sc_sign_at.nd rfl (by first | exact Or.inl rfl | exact Or.inr rfl) (pe_ifExp (pt_cmpR op_eq (pe_op op_mod (pe_callB call_len_seq (by rfl) hf_len (by decide +kernel) (pa_cons (pv 3) pa_nil)) pe_int) pe_int (nomark _)) (pv 2) pe_int))
      (pss_one (ps_ret (pe_op op_mulU (pv 4) (pe_call F_sign_of (hr.mono (by decide)) rfl g_sign_of k_sign_of b_sign_of .nil pass0 (pa_cons (pe_ix ix_lt (pv 3) (pe_un un_neg pe_int) (fun _ _ => rfl)) pa_nil)))))) pss_nil)
      (pss_cons (ps_asg (pe_tup (pa_cons pe_int (pa_cons pe_int pa_nil))) (pg_tup rfl (pgs_cons (pg_name (i := 5) sc_sign_at.nd rfl (by first | exact Or.inl rfl | exact Or.inr rfl)) (pgs_cons (pg_name (i := 6) sc_sign_at.nd rfl (by first | exact Or.inl rfl | exact Or.inr rfl)) pgs_nil))))
      (pss_cons (ps_for PassesOwn.never rfl (RT.pi_revA rfl hf_reversed (pv 3)) (pg_name (i := 7) sc_sign_at.nd rfl (by first | exact Or.inl rfl | exact Or.inr rfl)) (pss_cons (ps_set (i := 5) sc_sign_at.nd rfl (by first | exact Or.inl rfl | exact Or.inr rfl) (pe_op op_add (pe_op op_mulU (pv 5) (pe_ix ix_lt (pv 1) pe_int (fun _ _ => rfl))) (pe_op op_mulU (pv 7) (pv 6))))
      (pss_one (ps_set (i := 6) sc_sign_at.nd rfl (by first | exact Or.inl rfl | exact Or.inr rfl) (pe_op op_mulU (pv 6) (pe_ix ix_lt (pv 1) pe_int (fun _ _ => rfl)))))))
      (pss_one (ps_ret (pe_call F_sign_of (hr.mono (by decide)) rfl g_sign_of k_sign_of b_sign_of .nil pass0 (pa_cons (pv 5) pa_nil))))))))
/-! ### number_fits -/
theorem sc_number_fits : FnScope ["ground", "value", "limit", "top", "bottom"] ["ground", "value", "limit"] (defScope s_number_fits) := ⟨rfl, rfl, rfl, by decide +kernel, rfl, by decide +kernel, by decide +kernel⟩
def sp_number_fits (K : PySem.W.Frag) : Sp := fun vs H Q _ => ∃ (g : Int) (v : V) (l : Int), vs = [.int g, v, .int l] ∧ Kn2 H v ∧ ∀ b : Bool, (b = true ↔ NumV H g v l) → Q (.bl b) H
theorem len_number_fits {K : PySem.W.Frag} {vs : List V} {H : Hp} {Q : VK} {E : XK} (h : sp_number_fits K vs H Q E) : vs.length = ["ground", "value", "limit"].length := by
  obtain ⟨_, _, _, rfl, _⟩ := h
  rfl
def t_number_fits (K : PySem.W.Frag) : TS := (tSeq (tIfS (tTest (tOp rNe (tVar 0) (tC (.int 0)))) (tRet (tAndV (tCall (sp_is_int K) [] E0 (tCons (tVar 1) tNil)) (tChain rLeI rLtI (tC (.int 0)) (tVar 1) (tVar 0)))) tNext)
  (tSeq (tIfS (tOr (tNot (tB (tCB (rIsi K) (tCons (tVar 1) (tCons (tC (.ty "tuple")) tNil))))) (tTest (tOp rNe (tCB (rLenU K) (tCons (tVar 1) tNil)) (tC (.int 2))))) (tRet (tC (.bl false))) tNext)
  (tSeq (tAsg (tVar 1) (gTup K 2 (gCons (gName 3) (gCons (gName 4) gNil))))
  (tSeq (tIfS (tOr (tNot (tB (tCall (sp_is_below K) [] E0 (tCons (tVar 3) (tCons (tVar 2) tNil))))) (tNot (tB (tCall (sp_is_below K) [] E0 (tCons (tVar 4) (tCons (tVar 2) tNil)))))) (tRet (tC (.bl false))) tNext)
  (tRet (tAndV (tOp rGeI (tVar 4) (tC (.int 1))) (tOp rEq (tCB rGcd (tCons (tVar 3) (tCons (tVar 4) tNil))) (tC (.int 1)))))))))
theorem bfalse {p : Prop} (h : ¬ p) : (false = true ↔ p) := ⟨fun x => (by cases x), fun x => (h x).elim⟩
theorem TupV.inj {H : Hp} {v : V} {xs ys : List V} (a : TupV H v xs) (b : TupV H v ys) : xs = ys := by
  obtain ⟨p, e, h⟩ := a
  obtain ⟨q, e2, h2⟩ := b
  rw [e] at e2
  cases e2
  rw [h] at h2
  cases h2
  rfl
theorem pure_number_fits (K : PySem.W.Frag) (vs : List V) (H : Hp) (Q : VK) (E : XK) (h : sp_number_fits K vs H Q E) : t_number_fits K { nx := fun _ H' => Q .non H', rt := Q } (start ["ground", "value", "limit", "top", "bottom"] vs) H := by
  obtain ⟨g, v, l, rfl, hk, hq⟩ := h
  unfold t_number_fits
  walk_at "z"
  by_cases h0 : g = 0
  · subst h0
    walk_at "z"
    refine isi_kn_tuple hk.1 (fun xs ht => ?_) (fun hn => ?_)
    · walk_at "z"
      have hkx := hk.2 xs ht
      obtain ⟨a, rfl, ha⟩ := ht
      have ht : TupV H (V.ref a) xs := ⟨a, rfl, ha⟩
      refine lenT (sqT_of ha) ?_
      walk_at "z"
      match xs, ha, ht, hkx with
      | [], ha, ht, _ =>
        rw [if_pos (by simp)]
        refine hq false (bfalse fun h => ?_)
        rcases h with ⟨h, _⟩ | ⟨_, t, b, h, _⟩
        · exact h rfl
        · have := ht.inj h; simp at this
      | [x], ha, ht, _ =>
        rw [if_pos (by simp)]
        refine hq false (bfalse fun h => ?_)
        rcases h with ⟨h, _⟩ | ⟨_, t, b, h, _⟩
        · exact h rfl
        · have := ht.inj h; simp at this
      | x :: y :: z :: r, ha, ht, _ =>
        rw [if_pos (by simp only [List.length_cons]; omega)]
        refine hq false (bfalse fun h => ?_)
        rcases h with ⟨h, _⟩ | ⟨_, t, b, h, _⟩
        · exact h rfl
        · have := ht.inj h; simp at this
      | [x, y], ha, ht, hkx =>
        have e2 : ¬ ¬ (([x, y] : List V).length : Int) = 2 := fun c => c rfl
        rw [if_neg e2]
        refine ⟨[x, y], sqT_of ha, rfl, ?_⟩
        walk_at "z"
        refine ⟨x, l, rfl, hkx x (by simp), ?_⟩
        walk_at "z"
        by_cases hx : belowB x l = true
        · rw [hx]
          walk_at "z"
          refine ⟨y, l, rfl, hkx y (by simp), ?_⟩
          walk_at "z"
          by_cases hy : belowB y l = true
          · rw [hy]
            walk_at "z"
            obtain ⟨t, rfl, t1, t2⟩ := belowB_int hx
            obtain ⟨b, rfl, b1, b2⟩ := belowB_int hy
            walk_at "z"
            have iff : NumV H 0 (V.ref a) l ↔ 1 ≤ b ∧ Nat.gcd t.natAbs b.natAbs = 1 := by
              constructor
              · rintro (⟨h, _⟩ | ⟨_, t', b', h, _, _, h1, h2⟩)
                · exact absurd rfl h
                · have := ht.inj h
                  simp at this
                  obtain ⟨rfl, rfl⟩ := this
                  exact ⟨h1, h2⟩
              · rintro ⟨h1, h2⟩
                exact .inr ⟨rfl, t, b, ht, ⟨t1, t2⟩, ⟨b1, b2⟩, h1, h2⟩
            by_cases hb : 1 ≤ b
            · rw [if_pos hb]
              refine hq _ ?_
              rw [iff, decide_eq_true_eq]
              constructor
              · intro h; exact ⟨hb, by omega⟩
              · rintro ⟨_, h⟩; omega
            · rw [if_neg hb]
              exact hq false (bfalse fun h => hb (iff.mp h).1)
          · have hy2 : belowB y l = false := by simpa using hy
            rw [hy2]
            walk_at "z"
            refine hq false (bfalse fun h => ?_)
            rcases h with ⟨h, _⟩ | ⟨_, t, b, h, _, h3, _⟩
            · exact h rfl
            · have := ht.inj h
              simp at this
              rw [this.2] at hy
              exact hy (decide_eq_true h3)
        · have hx2 : belowB x l = false := by simpa using hx
          rw [hx2]
          walk_at "z"
          refine hq false (bfalse fun h => ?_)
          rcases h with ⟨h, _⟩ | ⟨_, t, b, h, h3, _⟩
          · exact h rfl
          · have := ht.inj h
            simp at this
            rw [this.1] at hx
            exact hx (decide_eq_true h3)
    · walk_at "z"
      refine hq false (bfalse fun h => ?_)
      rcases h with ⟨h, _⟩ | ⟨_, t, b, h, _⟩
      · exact h rfl
      · exact hn _ h
  · rw [if_pos h0]
    refine ⟨v, rfl, hk.1, ?_⟩
    walk_at "z"
    cases v with
    | int n =>
      simp only [isI, if_true]
      walk_at "z"
      have iff : NumV H g (V.int n) l ↔ 0 ≤ n ∧ n < g := by
        constructor
        · rintro (⟨_, m, e, h⟩ | ⟨h, _⟩)
          · cases e; exact h
          · exact absurd h h0
        · intro h
          exact .inl ⟨h0, n, rfl, h⟩
      by_cases h1 : 0 ≤ n
      · rw [if_pos h1]
        refine hq _ ?_
        rw [iff, decide_eq_true_eq]
        exact ⟨fun h => ⟨h1, h⟩, fun h => h.2⟩
      · rw [if_neg h1]
        exact hq false (bfalse fun h => h1 (iff.mp h).1)
    | _ =>
      simp only [isI, Bool.false_eq_true, if_false]
      refine hq false (bfalse ?_)
      rintro (⟨_, m, e, _⟩ | ⟨h, _⟩)
      · cases e
      · exact absurd h h0
theorem ok_number_fits {P : Program} {w : World} {K : PySem.W.Frag} {mg : Str → Option Value} {base : Heap} (T : Tx K mg) : Okk P w K mg base 3 "number_fits" ["ground", "value", "limit"] (sp_number_fits K) := by
  obtain ⟨fd_is_int, F_is_int, b_is_int, g_is_int, k_is_int⟩ := ok_is_int (P := P) (w := w) (base := base) T
  obtain ⟨fd_is_below, F_is_below, b_is_below, g_is_below, k_is_below⟩ := ok_is_below (P := P) (w := w) (base := base) T
  have hf_isinstance := T.n_isinstance
  have hf_len := T.n_len
  have hf_tuple := T.n_tuple
  have hb_gcd := T.b_gcd
  obtain ⟨fd, F⟩ := T.f_number_fits
  refine ⟨fd, F.ok sc_number_fits (fun vs H Q E h => len_number_fits h) (fun cdv A outer s H vs Q E hr h => ⟨t_number_fits K, PSs.nox ?_, pure_number_fits K vs H Q E h⟩), F.bindsN (fun _ _ _ _ _ _ us hl => match us, hl with | [_, _, _], _ => rfl), T.g_number_fits, F.kp⟩
  exact (pss_cons (ps_if (pt_cmpR op_ne (pv 0) pe_int (nomark _)) (pss_one (ps_ret (pe_and (pe_call F_is_int (hr.mono (by decide)) rfl g_is_int k_is_int b_is_int .nil pass0 (pa_cons (pv 1) pa_nil)) (pe_one (pe_chain op_le op_lt pe_int (pv 1) (pv 0)))))) pss_nil)
      (pss_cons (ps_if (PW.pt (pw_or (pt_not (pt_val (pe_callB call_isi (by rfl) hf_isinstance (by decide +kernel) (pa_cons (pv 1) (pa_cons (pe_bltn (v := .ty "tuple") rfl hf_tuple (by decide +kernel) rfl) pa_nil))))) (pw_or1 (pt_cmpR op_ne (pe_callB call_len_seq (by rfl) hf_len (by decide +kernel) (pa_cons (pv 1) pa_nil)) pe_int (nomark _))))) (pss_one (ps_ret pe_bl)) pss_nil)
      (pss_cons (ps_asg (pv 1) (pg_tup rfl (pgs_cons (pg_name (i := 3) sc_number_fits.nd rfl (by first | exact Or.inl rfl | exact Or.inr rfl)) (pgs_cons (pg_name (i := 4) sc_number_fits.nd rfl (by first | exact Or.inl rfl | exact Or.inr rfl)) pgs_nil))))
      (pss_cons (ps_if (PW.pt (pw_or (pt_not (pt_val (pe_call F_is_below (hr.mono (by decide)) rfl g_is_below k_is_below b_is_below .nil pass0 (pa_cons (pv 3) (pa_cons (pv 2) pa_nil))))) (pw_or1 (pt_not (pt_val (pe_call F_is_below (hr.mono (by decide)) rfl g_is_below k_is_below b_is_below .nil pass0 (pa_cons (pv 4) (pa_cons (pv 2) pa_nil)))))))) (pss_one (ps_ret pe_bl)) pss_nil)
      (pss_one (ps_ret (pe_and (pe_cmpR op_ge (pv 4) pe_int (nomark _)) (pe_one (pe_cmpR op_eq (pe_callBfun cr_gcd rfl hb_gcd (pa_cons (pv 3) (pa_cons (pv 4) pa_nil))) pe_int (nomark _))))))))))
/-! ### quotient -/
theorem sc_quotient : FnScope ["ground", "top", "bottom", "common"] ["ground", "top", "bottom"] (defScope s_quotient) := ⟨rfl, rfl, rfl, by decide +kernel, rfl, by decide +kernel, by decide +kernel⟩
/-- x over y is t over b in lowest terms -/
def Frac (t b x y : Int) : Prop := 1 ≤ y ∧ Nat.gcd x.natAbs y.natAbs = 1 ∧ x * b = t * y
def sp_quotient (K : PySem.W.Frag) : Sp := fun vs H Q _ => ∃ g t b : Int, vs = [.int g, .int t, .int b] ∧ 0 ≤ g ∧
  (g = 0 → b ≠ 0 ∧ Sz 8000 b ∧ ∀ p x y H', Same H H' → Frac t b x y → x.natAbs ≤ t.natAbs → y.natAbs ≤ b.natAbs → H' p = some (.tup [.int x, .int y]) → Q (.ref p) H') ∧
  (g ≠ 0 → Sz 1000 g ∧ Sz 8000 t ∧ ∀ w u H', Same H H' → w = t * u % g → (b * u) % g = ((Nat.gcd (b % g).natAbs g.natAbs : Nat) : Int) % g → Q (.int w) H')
theorem len_quotient {K : PySem.W.Frag} {vs : List V} {H : Hp} {Q : VK} {E : XK} (h : sp_quotient K vs H Q E) : vs.length = ["ground", "top", "bottom"].length := by
  obtain ⟨_, _, _, rfl, _⟩ := h
  rfl
def t_quotient (K : PySem.W.Frag) : TS := (tSeq (tIfS (tTest (tOp rNe (tVar 0) (tC (.int 0)))) (tRet (tOp rModU (tOp rMulU (tVar 1) (tCall (sp_undone_modulo K) [] E0 (tCons (tVar 2) (tCons (tVar 0) tNil)))) (tVar 0))) tNext)
  (tSeq (tAsg (tCB rGcd (tCons (tVar 1) (tCons (tVar 2) tNil))) (gName 3))
  (tSeq (tIfS (tTest (tOp rLtI (tVar 2) (tC (.int 0)))) (tAsg (tUn rNeg (tVar 3)) (gName 3)) tNext)
  (tRet (tTup (tCons (tOp rDivZ (tVar 1) (tVar 3)) (tCons (tOp rDivZ (tVar 2) (tVar 3)) tNil)))))))
theorem frac_of {t b c : Int} (hc : c = ((Nat.gcd t.natAbs b.natAbs : Nat) : Int) ∧ 0 < b ∨ c = -((Nat.gcd t.natAbs b.natAbs : Nat) : Int) ∧ b < 0) : Frac t b (t.fdiv c) (b.fdiv c) ∧ (t.fdiv c).natAbs ≤ t.natAbs ∧ (b.fdiv c).natAbs ≤ b.natAbs ∧ c ≠ 0 ∧ c.natAbs ≤ b.natAbs := by
  have hb : b ≠ 0 := by rcases hc with ⟨_, h⟩ | ⟨_, h⟩ <;> omega
  have hg : 0 < Nat.gcd t.natAbs b.natAbs := Nat.gcd_pos_of_pos_right _ (by omega)
  have hca : c.natAbs = Nat.gcd t.natAbs b.natAbs := by rcases hc with ⟨h, _⟩ | ⟨h, _⟩ <;> omega
  have hc0 : c ≠ 0 := by omega
  have d1 : c ∣ t := Int.natAbs_dvd_natAbs.mp (by rw [hca]; exact Nat.gcd_dvd_left _ _)
  have d2 : c ∣ b := Int.natAbs_dvd_natAbs.mp (by rw [hca]; exact Nat.gcd_dvd_right _ _)
  rw [Int.fdiv_eq_ediv_of_dvd d1, Int.fdiv_eq_ediv_of_dvd d2]
  obtain ⟨x, rfl⟩ := d1
  obtain ⟨y, rfl⟩ := d2
  rw [Int.mul_ediv_cancel_left _ hc0, Int.mul_ediv_cancel_left _ hc0]
  have h1 : 1 ≤ c.natAbs := by omega
  refine ⟨⟨?_, ?_, by rw [Int.mul_left_comm, Int.mul_assoc]⟩, ?_, ?_, hc0, ?_⟩
  · have hy : y ≠ 0 := fun z => by rw [z] at hb; simp at hb
    refine Classical.byContradiction fun hn => ?_
    have hy2 : y < 0 := by omega
    rcases hc with ⟨h, h2⟩ | ⟨h, h2⟩
    · have := Int.mul_neg_of_pos_of_neg (show 0 < c by omega) hy2
      omega
    · have := Int.mul_pos_of_neg_of_neg (show c < 0 by omega) hy2
      omega
  · rw [Int.natAbs_mul, Int.natAbs_mul, Nat.gcd_mul_left] at hca
    have : c.natAbs * Nat.gcd x.natAbs y.natAbs = c.natAbs * 1 := by rw [← hca, Nat.mul_one]
    exact Nat.eq_of_mul_eq_mul_left (by omega) this
  · rw [Int.natAbs_mul]; exact Nat.le_mul_of_pos_left _ (by omega)
  · rw [Int.natAbs_mul]; exact Nat.le_mul_of_pos_left _ (by omega)
  · rw [Int.natAbs_mul]
    exact Nat.le_mul_of_pos_right _ (by
      have : y ≠ 0 := fun z => by rw [z] at hb; simp at hb
      omega)
theorem pure_quotient (K : PySem.W.Frag) (vs : List V) (H : Hp) (Q : VK) (E : XK) (h : sp_quotient K vs H Q E) : t_quotient K { nx := fun _ H' => Q .non H', rt := Q } (start ["ground", "top", "bottom", "common"] vs) H := by
  obtain ⟨g, t, b, rfl, hg, hq1, hq2⟩ := h
  unfold t_quotient
  walk_at "z"
  by_cases h0 : g = 0
  · subst h0
    obtain ⟨hb, sb, hq⟩ := hq1 rfl
    walk_at "z"
    have key : ∀ c : Int, (c = ((Nat.gcd t.natAbs b.natAbs : Nat) : Int) ∧ 0 < b ∨ c = -((Nat.gcd t.natAbs b.natAbs : Nat) : Int) ∧ b < 0) →
        CDivZ t c ∧ CDivZ b c ∧ 2 ≤ sizeLine ∧ ∀ p, H p = none → Q (.ref p) (upd H p (.tup [.int (t.fdiv c), .int (b.fdiv c)])) := fun c hc => by
      obtain ⟨f, e1, e2, e3, e4⟩ := frac_of hc
      have lc : c.natAbs.log2 < 9000 := Nat.lt_of_lt_of_le (PySem.Flt.log2_lt_of (k := 8000) (by decide) (sz_le sb e4)) (by decide)
      exact ⟨⟨e3, lc⟩, ⟨e3, lc⟩, by decide, fun p hp => hq p _ _ _ (same_upd hp) f e1 e2 upd_same⟩
    by_cases h0 : b < 0
    · rw [if_pos h0]
      exact key _ (.inr ⟨rfl, h0⟩)
    · rw [if_neg h0]
      exact key _ (.inl ⟨rfl, by omega⟩)
  · rw [if_pos h0]
    obtain ⟨sg, st, hq⟩ := hq2 h0
    refine ⟨b, g, rfl, by omega, Nat.lt_of_lt_of_le sg (Nat.pow_le_pow_right (by decide) (by decide)), fun u H' s u0 u1 e => ?_⟩
    walk_at "z"
    refine ⟨mulW (a := 8000) (b := 1000) st (sz_le sg (by omega)) (by decide) (by decide) (by decide), by omega, ?_⟩
    exact hq _ u _ s rfl e
theorem ok_quotient {P : Program} {w : World} {K : PySem.W.Frag} {mg : Str → Option Value} {base : Heap} (T : Tx K mg) : Okk P w K mg base 3 "quotient" ["ground", "top", "bottom"] (sp_quotient K) := by
  obtain ⟨fd_undone_modulo, F_undone_modulo, b_undone_modulo, g_undone_modulo, k_undone_modulo⟩ := ok_undone_modulo (P := P) (w := w) (base := base) T
  have hb_gcd := T.b_gcd
  obtain ⟨fd, F⟩ := T.f_quotient
  refine ⟨fd, F.ok sc_quotient (fun vs H Q E h => len_quotient h) (fun cdv A outer s H vs Q E hr h => ⟨t_quotient K, PSs.nox ?_, pure_quotient K vs H Q E h⟩), F.bindsN (fun _ _ _ _ _ _ us hl => match us, hl with | [_, _, _], _ => rfl), T.g_quotient, F.kp⟩
  exact (pss_cons (ps_if (pt_cmpR op_ne (pv 0) pe_int (nomark _)) (pss_one (ps_ret (pe_op op_mod (pe_op op_mulU (pv 1) (pe_call F_undone_modulo (hr.mono (by decide)) rfl g_undone_modulo k_undone_modulo b_undone_modulo .nil pass0 (pa_cons (pv 2) (pa_cons (pv 0) pa_nil)))) (pv 0)))) pss_nil)
      (pss_cons (ps_set (i := 3) sc_quotient.nd rfl (by first | exact Or.inl rfl | exact Or.inr rfl) (pe_callBfun cr_gcd rfl hb_gcd (pa_cons (pv 1) (pa_cons (pv 2) pa_nil))))
      (pss_cons (ps_if (pt_cmpR op_lt (pv 2) pe_int (nomark _)) (pss_one (ps_set (i := 3) sc_quotient.nd rfl (by first | exact Or.inl rfl | exact Or.inr rfl) (pe_un un_neg (pv 3)))) pss_nil)
      (pss_one (ps_ret (pe_tup (pa_cons (pe_op op_fdivZ (pv 1) (pv 3)) (pa_cons (pe_op op_fdivZ (pv 2) (pv 3)) pa_nil))))))))
/-! ### is_at_most -/
theorem sc_is_at_most : FnScope ["one", "other"] ["one", "other"] (defScope s_is_at_most) := ⟨rfl, rfl, rfl, by decide +kernel, rfl, by decide +kernel, by decide +kernel⟩
def sp_is_at_most (K : PySem.W.Frag) : Sp := fun _ _ _ _ => False
theorem len_is_at_most {K : PySem.W.Frag} {vs : List V} {H : Hp} {Q : VK} {E : XK} (h : sp_is_at_most K vs H Q E) : vs.length = ["one", "other"].length := h.elim
theorem ok_is_at_most {P : Program} {w : World} {K : PySem.W.Frag} {mg : Str → Option Value} {base : Heap} (T : Tx K mg) : Okk P w K mg base 3 "is_at_most" ["one", "other"] (sp_is_at_most K) := by
  obtain ⟨fd, F⟩ := T.f_is_at_most
  exact ⟨fd, F.ok sc_is_at_most (fun vs H Q E h => len_is_at_most h) (fun cdv A outer s H vs Q E hr h => h.elim), F.bindsN (fun _ _ _ _ _ _ us hl => match us, hl with | [_, _], _ => rfl), T.g_is_at_most, F.kp⟩
/-! ### opened -/
theorem sc_opened : FnScope ["ground", "poly", "numbers", "bottom"] ["ground", "poly"] (defScope s_opened) := ⟨rfl, rfl, rfl, by decide +kernel, rfl, by decide +kernel, by decide +kernel⟩
def sp_opened (K : PySem.W.Frag) : Sp := fun vs H Q _ => ∃ (g : Int) (v : V) (qs : List (Int × Int)), vs = [.int g, v] ∧ RowN H g v qs ∧ qs.length < 2 ^ 20 ∧ Sz 8000 (prI (qs.map (·.2))) ∧ (∀ q ∈ qs, Sz 8000 q.1) ∧
  ∀ x B H', Same H H' → 1 ≤ B → (∀ q ∈ qs, q.2 ∣ B) → B ≤ prI (qs.map (·.2)) → InP K H' x (qs.map fun q => q.1 * (B / q.2)) B → Q x H'
theorem len_opened {K : PySem.W.Frag} {vs : List V} {H : Hp} {Q : VK} {E : XK} (h : sp_opened K vs H Q E) : vs.length = ["ground", "poly"].length := by
  obtain ⟨_, _, _, rfl, _⟩ := h
  rfl
def t_opened (K : PySem.W.Frag) : TS := (tSeq (tAsg (tCall (sp_whole_row K) [] E0 (tCons (tVar 0) (tCons (tVar 1) tNil))) (gTup K 2 (gCons (gName 2) (gCons (gName 3) gNil))))
  (tRet (tTup (tCons (tCB (rTupOf K) (tCons (tVar 2) tNil)) (tCons (tVar 3) tNil)))))
theorem pure_opened (K : PySem.W.Frag) (vs : List V) (H : Hp) (Q : VK) (E : XK) (h : sp_opened K vs H Q E) : t_opened K { nx := fun _ H' => Q .non H', rt := Q } (start ["ground", "poly", "numbers", "bottom"] vs) H := by
  obtain ⟨g, v, qs, rfl, hv, hl, hs, hs1, hq⟩ := h
  obtain ⟨T, xs, rfl, hT, hA⟩ := hv
  unfold t_opened
  walk_at "z"
  refine ⟨g, T, xs, qs, false, rfl, hT, hA, Nat.lt_trans hl (by decide), hs, hs1, fun p L B H1 hLn s1 hp hL hB hd hle => ?_⟩
  refine ⟨p, _, rfl, sqT_of hp, rfl, ?_⟩
  walk_at "z"
  refine ⟨L, _, rfl, .inl ⟨sqL_of hL, fun t ht => ?_⟩⟩
  refine ⟨by decide, fun x hx => ?_⟩
  have s2 := same_upd (o := .tup ((qs.map fun q => q.1 * (B / q.2)).map V.int)) ht
  exact hq _ B _ ((s1.trans s2).trans (same_upd hx)) hB hd hle (in_new hx ⟨t, rfl, sqT_of upd_same⟩)
theorem ok_opened {P : Program} {w : World} {K : PySem.W.Frag} {mg : Str → Option Value} {base : Heap} (T : Tx K mg) : Okk P w K mg base 3 "opened" ["ground", "poly"] (sp_opened K) := by
  obtain ⟨fd_whole_row, F_whole_row, b_whole_row, g_whole_row, k_whole_row⟩ := ok_whole_row (P := P) (w := w) (base := base) T
  have hf_tuple := T.n_tuple
  obtain ⟨fd, F⟩ := T.f_opened
  refine ⟨fd, F.ok sc_opened (fun vs H Q E h => len_opened h) (fun cdv A outer s H vs Q E hr h => ⟨t_opened K, PSs.nox ?_, pure_opened K vs H Q E h⟩), F.bindsN (fun _ _ _ _ _ _ us hl => match us, hl with | [_, _], _ => rfl), T.g_opened, F.kp⟩
  exact (pss_cons (ps_asg (pe_call F_whole_row (hr.mono (by decide)) rfl g_whole_row k_whole_row b_whole_row .nil pass0 (pa_cons (pv 0) (pa_cons (pv 1) pa_nil))) (pg_tup rfl (pgs_cons (pg_name (i := 2) sc_opened.nd rfl (by first | exact Or.inl rfl | exact Or.inr rfl)) (pgs_cons (pg_name (i := 3) sc_opened.nd rfl (by first | exact Or.inl rfl | exact Or.inr rfl)) pgs_nil))))
      (pss_one (ps_ret (pe_tup (pa_cons (pe_callTy call_tuple_of (by rfl) hf_tuple (by decide +kernel) (pa_cons (pv 2) pa_nil)) (pa_cons (pv 3) pa_nil))))))
/-! ### settled -/
theorem sc_settled : FnScope ["ground", "numbers", "bottom", "back", "number", "common"] ["ground", "numbers", "bottom"] (defScope s_settled) := ⟨rfl, rfl, rfl, by decide +kernel, rfl, by decide +kernel, by decide +kernel⟩
/-- the inner poly ks over k of zs over B -/
def Stl (g : Int) (zs : List Int) (B : Int) (ks : List Int) (k : Int) : Prop :=
  (g ≠ 0 → k = 1 ∧ ∃ u, 0 ≤ u ∧ u < g ∧ (B * u) % g = ((Nat.gcd (B % g).natAbs g.natAbs : Nat) : Int) % g ∧ ks = trim (zs.map fun z => z * u % g)) ∧
  (g = 0 → ∃ c, c ≠ 0 ∧ c ∣ B ∧ (∀ z ∈ zs, c ∣ z) ∧ (∀ e, e ∣ B → (∀ z ∈ zs, e ∣ z) → e ∣ c) ∧ 1 ≤ B / c ∧ k = B / c ∧ ks = trim (zs.map (· / c)))
def sp_settled (K : PySem.W.Frag) : Sp := fun vs H Q _ => ∃ (g : Int) (a : Addr) (zs : List Int) (B : Int) (t : Bool), vs = [.int g, .ref a, .int B] ∧ SqB t K H a (zs.map V.int) ∧ zs.length < 2 ^ 20 ∧ 0 ≤ g ∧ (g ≠ 0 → Sz 1000 g ∧ ∀ z ∈ zs, Sz 8000 z) ∧ (g = 0 → B ≠ 0 ∧ Sz 8000 B) ∧
  ∀ x ks k H', Same H H' → InP K H' x ks k → Stl g zs B ks k → Q x H'
theorem len_settled {K : PySem.W.Frag} {vs : List V} {H : Hp} {Q : VK} {E : XK} (h : sp_settled K vs H Q E) : vs.length = ["ground", "numbers", "bottom"].length := by
  obtain ⟨_, _, _, _, _, rfl, _⟩ := h
  rfl
def t_settled_f1_b (K : PySem.W.Frag) : TS := (tAsg (tCB rGcd (tCons (tVar 5) (tCons (tVar 4) tNil))) (gName 5))
def t_settled (K : PySem.W.Frag) : TS := (tSeq (tIfS (tTest (tOp rNe (tVar 0) (tC (.int 0)))) (tSeq (tAsg (tCall (sp_undone_modulo K) [] E0 (tCons (tVar 2) (tCons (tVar 0) tNil))) (gName 3))
  (tRet (tTup (tCons (tCall (sp_without_zeros K) [] E0 (tCons (tLc (iSeqB K (tVar 1)) (gName 4) tYes (tOp rModU (tOp rMulU (tVar 4) (tVar 3)) (tVar 0)) [4]) tNil)) (tCons (tC (.int 1)) tNil))))) tNext)
  (tSeq (tAsg (tCB (rAbs) (tCons (tVar 2) tNil)) (gName 5))
  (tSeq (tFor (iSeqB K (tVar 1)) (gName 4) (t_settled_f1_b K))
  (tSeq (tIfS (tTest (tOp rLtI (tVar 2) (tC (.int 0)))) (tAsg (tUn rNeg (tVar 5)) (gName 5)) tNext)
  (tRet (tTup (tCons (tCall (sp_without_zeros K) [] E0 (tCons (tLc (iSeqB K (tVar 1)) (gName 4) tYes (tOp rDivZ (tVar 4) (tVar 5)) [4]) tNil)) (tCons (tOp rDivZ (tVar 2) (tVar 5)) tNil))))))))
theorem stl_one {g : Int} {zs ks : List Int} {k : Int} (h : Stl g zs 1 ks k) (hg : 1 < g) : k = 1 ∧ ks = trim (zs.map (· % g)) := by
  obtain ⟨h1, u, u0, u1, e, h2⟩ := h.1 (by omega)
  have e1 : (1 : Int) % g = 1 := Int.emod_eq_of_lt (by decide) hg
  rw [e1, show Nat.gcd (1 : Int).natAbs g.natAbs = 1 from Nat.gcd_one_left _, Int.one_mul, Int.emod_eq_of_lt u0 u1] at e
  have e2 : u = 1 := by rw [e]; exact e1
  subst e2
  refine ⟨h1, ?_⟩
  rw [h2]
  congr 1
  exact List.map_congr_left fun z _ => by rw [Int.mul_one]
theorem gcd_dvd_l (a b : Int) : ((Nat.gcd a.natAbs b.natAbs : Nat) : Int) ∣ a := Int.natAbs_dvd_natAbs.mp (by rw [Int.natAbs_natCast]; exact Nat.gcd_dvd_left _ _)
theorem gcd_dvd_r (a b : Int) : ((Nat.gcd a.natAbs b.natAbs : Nat) : Int) ∣ b := Int.natAbs_dvd_natAbs.mp (by rw [Int.natAbs_natCast]; exact Nat.gcd_dvd_right _ _)
theorem dvd_gcd_of {e a b : Int} (h1 : e ∣ a) (h2 : e ∣ b) : e ∣ ((Nat.gcd a.natAbs b.natAbs : Nat) : Int) := Int.natAbs_dvd_natAbs.mp (by rw [Int.natAbs_natCast]; exact Nat.dvd_gcd (Int.natAbs_dvd_natAbs.mpr h1) (Int.natAbs_dvd_natAbs.mpr h2))
theorem pure_settled (K : PySem.W.Frag) (vs : List V) (H : Hp) (Q : VK) (E : XK) (h : sp_settled K vs H Q E) : t_settled K { nx := fun _ H' => Q .non H', rt := Q } (start ["ground", "numbers", "bottom", "back", "number", "common"] vs) H := by
  obtain ⟨g, a, zs, B, t, rfl, ha, hl, hg, hg1, hg0, hq⟩ := h
  unfold t_settled
  walk_at "z"
  have hlen : (zs.map V.int).length < 2 ^ 22 := by rw [List.length_map]; exact Nat.lt_trans hl (by decide)
  by_cases h0 : g = 0
  · subst h0
    obtain ⟨hB, sB⟩ := hg0 rfl
    walk_at "z"
    refine ⟨a, t, rfl, ⟨_, ha⟩, for_SB (xs := zs.map V.int) (fun i σ H' => ∃ c o, σ = [some (.int 0), some (.ref a), some (.int B), none, o, some (.int c)] ∧ H' = H ∧ 1 ≤ c ∧ c ∣ B ∧ (∀ z ∈ zs.take i, c ∣ z) ∧ ∀ e, e ∣ B → (∀ z ∈ zs.take i, e ∣ z) → e ∣ c)
      ⟨_, none, rfl, rfl, ?_, ?_, by simp, ?_⟩ (fun i σ H' _ h => by obtain ⟨_, _, _, rfl, _⟩ := h; exact ha) (fun i x σ H' hx h N hN => ?_) (fun σ H' h => ?_)⟩
    · split <;> omega
    · split
      · exact (Int.neg_dvd).mpr (Int.dvd_refl _)
      · exact Int.dvd_refl _
    · intro e he _
      split
      · exact (Int.dvd_neg).mpr he
      · exact he
    · obtain ⟨c, o, rfl, rfl, c1, cB, cz, ce⟩ := h
      rw [List.getElem?_map] at hx
      obtain ⟨z, hz, rfl⟩ := Option.map_eq_some_iff.mp hx
      have et : zs.take (i + 1) = zs.take i ++ [z] := by rw [List.take_succ, hz]; rfl
      unfold t_settled_f1_b
      walk_at "z"
      have d1 := gcd_dvd_l c z
      have d2 := gcd_dvd_r c z
      have gp : 1 ≤ ((Nat.gcd c.natAbs z.natAbs : Nat) : Int) := by
        have : 0 < Nat.gcd c.natAbs z.natAbs := Nat.gcd_pos_of_pos_left _ (by omega)
        omega
      refine hN _ _ ⟨_, _, rfl, rfl, gp, Int.dvd_trans d1 cB, fun y hy => ?_, fun e h1 h2 => ?_⟩
      · rw [et] at hy
        rcases List.mem_append.mp hy with hy | hy
        · exact Int.dvd_trans d1 (cz y hy)
        · rw [List.mem_singleton.mp hy]; exact d2
      · refine dvd_gcd_of (ce e h1 fun y hy => h2 y (by rw [et]; exact List.mem_append_left _ hy)) (h2 z (by rw [et]; simp))
    · obtain ⟨c, o, rfl, rfl, c1, cB, cz, ce⟩ := h
      rw [List.length_map, List.take_length] at cz ce
      walk_at "z"
      have tail : ∀ d : Int, d ≠ 0 → d ∣ B → d.natAbs = c.natAbs → 1 ≤ B / d →
          ∃ a_1 b, V.ref a = V.ref a_1 ∧ (∃ xs, SqB b K H' a_1 xs) ∧ LcW (ItB b K a_1) H' (gName 4) tYes (tOp rDivZ (tVar 4) (tVar 5)) [4] [some (V.int 0), some (V.ref a), some (V.int B), none, o, some (V.int d)] fun x H1 =>
            sp_without_zeros K [x] H1 (fun x H1 => CDivZ B d ∧ 2 ≤ sizeLine ∧ ∀ (p : Addr), H1 p = none → Q (V.ref p) (upd H1 p (HO.tup [x, V.int (B.fdiv d)]))) E0 := by
        intro d d0 dB dc dk
        have lc : d.natAbs.log2 < 9000 := by
          have h1 : d.natAbs ≤ B.natAbs := Nat.le_of_dvd (by omega) (Int.natAbs_dvd_natAbs.mpr dB)
          exact Nat.lt_of_lt_of_le (PySem.Flt.log2_lt_of (k := 8000) (by decide) (Nat.lt_of_le_of_lt h1 sB)) (by decide)
        have dz : ∀ z ∈ zs, d ∣ z := fun z hz => Int.natAbs_dvd_natAbs.mp (by rw [dc]; exact Int.natAbs_dvd_natAbs.mpr (cz z hz))
        refine ⟨a, t, rfl, ⟨_, ha⟩, comp_SB ha (fun i => (zs[i]?).map fun z => V.int (z / d)) hlen (fun i x H2 hx s Qo hQo => ?_) (fun L H2 s hL => ?_)⟩
        · rw [List.getElem?_map] at hx
          obtain ⟨z, hz, rfl⟩ := Option.map_eq_some_iff.mp hx
          walk_at "z"
          refine ⟨⟨d0, lc⟩, ?_⟩
          rw [Int.fdiv_eq_ediv_of_dvd (dz z (List.mem_of_getElem? hz))]
          have := hQo H2 (Same.refl _)
          rw [hz] at this
          exact this
        · rw [outL_get zs _ (by simp)] at hL
          refine ⟨L, zs.map (· / d), rfl, by rw [hL, List.map_map]; rfl, by rw [List.length_map]; exact hl, fun v H3 s3 hv => ?_⟩
          refine ⟨⟨d0, lc⟩, by decide, fun p hp => ?_⟩
          rw [Int.fdiv_eq_ediv_of_dvd dB]
          refine hq _ _ _ _ ((s.trans s3).trans (same_upd hp)) (in_new hp hv) ⟨fun h => absurd rfl h, fun _ => ⟨d, d0, dB, dz, fun e h1 h2 => Int.natAbs_dvd_natAbs.mp (by rw [dc]; exact Int.natAbs_dvd_natAbs.mpr (ce e h1 h2)), dk, rfl, rfl⟩⟩
      by_cases hb : B < 0
      · rw [if_pos hb]
        walk_at "z"
        refine tail (-c) (by omega) ((Int.neg_dvd).mpr cB) (by rw [Int.natAbs_neg]) ?_
        obtain ⟨y, rfl⟩ := cB
        rw [show c * y = -c * -y by rw [Int.neg_mul_neg], Int.mul_ediv_cancel_left _ (by omega)]
        have : y < 0 := by
          refine Classical.byContradiction fun hn => ?_
          have := Int.mul_nonneg (show 0 ≤ c by omega) (show 0 ≤ y by omega)
          omega
        omega
      · rw [if_neg hb]
        walk_at "z"
        refine tail c (by omega) cB rfl ?_
        obtain ⟨y, rfl⟩ := cB
        rw [Int.mul_ediv_cancel_left _ (by omega)]
        refine Classical.byContradiction fun hn => ?_
        have := Int.mul_nonpos_of_nonneg_of_nonpos (show 0 ≤ c by omega) (show y ≤ 0 by omega)
        omega
  · rw [if_pos h0]
    obtain ⟨sg, sz⟩ := hg1 h0
    refine ⟨B, g, rfl, by omega, Nat.lt_of_lt_of_le sg (Nat.pow_le_pow_right (by decide) (by decide)), fun u H1 s1 u0 u1 eu => ?_⟩
    walk_at "z"
    refine ⟨a, t, rfl, ⟨_, sqB_up ha s1⟩, comp_SB (sqB_up ha s1) (fun i => (zs[i]?).map fun z => V.int (z * u % g)) hlen (fun i x H2 hx s Qo hQo => ?_) (fun L H2 s hL => ?_)⟩
    · rw [List.getElem?_map] at hx
      obtain ⟨z, hz, rfl⟩ := Option.map_eq_some_iff.mp hx
      walk_at "z"
      refine ⟨mulW (a := 8000) (b := 1000) (sz z (List.mem_of_getElem? hz)) (sz_le sg (by omega)) (by decide) (by decide) (by decide), by omega, ?_⟩
      have := hQo H2 (Same.refl _)
      rw [hz] at this
      exact this
    · rw [outL_get zs _ (by simp)] at hL
      refine ⟨L, zs.map fun z => z * u % g, rfl, by rw [hL, List.map_map]; rfl, by rw [List.length_map]; exact hl, fun v H3 s3 hv => ?_⟩
      walk_at "z"
      refine ⟨by decide, fun p hp => ?_⟩
      exact hq _ _ _ _ (((s1.trans s).trans s3).trans (same_upd hp)) (in_new hp hv) ⟨fun _ => ⟨rfl, u, u0, u1, eu, rfl⟩, fun h => absurd h h0⟩
theorem ok_settled {P : Program} {w : World} {K : PySem.W.Frag} {mg : Str → Option Value} {base : Heap} (T : Tx K mg) : Okk P w K mg base 3 "settled" ["ground", "numbers", "bottom"] (sp_settled K) := by
  obtain ⟨fd_undone_modulo, F_undone_modulo, b_undone_modulo, g_undone_modulo, k_undone_modulo⟩ := ok_undone_modulo (P := P) (w := w) (base := base) T
  obtain ⟨fd_without_zeros, F_without_zeros, b_without_zeros, g_without_zeros, k_without_zeros⟩ := ok_without_zeros (P := P) (w := w) (base := base) T
  have hf_abs := T.n_abs
  have hb_gcd := T.b_gcd
  obtain ⟨fd, F⟩ := T.f_settled
  refine ⟨fd, F.ok sc_settled (fun vs H Q E h => len_settled h) (fun cdv A outer s H vs Q E hr h => ⟨t_settled K, PSs.nox ?_, pure_settled K vs H Q E h⟩), F.bindsN (fun _ _ _ _ _ _ us hl => match us, hl with | [_, _, _], _ => rfl), T.g_settled, F.kp⟩
  exact (pss_cons (ps_if (pt_cmpR op_ne (pv 0) pe_int (nomark _)) (pss_cons (ps_set (i := 3) sc_settled.nd rfl (by first | exact Or.inl rfl | exact Or.inr rfl) (pe_call F_undone_modulo (hr.mono (by decide)) rfl g_undone_modulo k_undone_modulo b_undone_modulo .nil pass0 (pa_cons (pv 2) (pa_cons (pv 0) pa_nil))))
      (pss_one (ps_ret (pe_tup (pa_cons (pe_call F_without_zeros (hr.mono (by decide)) rfl g_without_zeros k_without_zeros b_without_zeros .nil pass0 (pa_cons (pe_lc (own := [("number", 4)]) (g := (gName 4)) (tt := tYes) rfl sc_settled.nd (pi_seqB (pv 1)) (blkOk_by (own := [("number", 4)]) (N := ["ground", "numbers", "bottom", "back", "number", "common"]) (sc := defScope s_settled) (by decide +kernel)) (fun _ _ _ _ _ => (pg_name (i := 4) sc_settled.nd rfl (by first | exact Or.inl rfl | exact Or.inr rfl))) (fun _ _ _ _ _ => pts_nil) (fun _ _ _ _ _ => (pe_op op_mod (pe_op op_mulU (pv 4) (pv 3)) (pv 0)))) pa_nil)) (pa_cons pe_int pa_nil)))))) pss_nil)
      (pss_cons (ps_set (i := 5) sc_settled.nd rfl (by first | exact Or.inl rfl | exact Or.inr rfl) (pe_callB call_abs (by rfl) hf_abs (by decide +kernel) (pa_cons (pv 2) pa_nil)))
      (pss_cons (ps_for PassesOwn.never rfl (pi_seqB (pv 1)) (pg_name (i := 4) sc_settled.nd rfl (by first | exact Or.inl rfl | exact Or.inr rfl)) (pss_one (ps_set (i := 5) sc_settled.nd rfl (by first | exact Or.inl rfl | exact Or.inr rfl) (pe_callBfun cr_gcd rfl hb_gcd (pa_cons (pv 5) (pa_cons (pv 4) pa_nil))))))
      (pss_cons (ps_if (pt_cmpR op_lt (pv 2) pe_int (nomark _)) (pss_one (ps_set (i := 5) sc_settled.nd rfl (by first | exact Or.inl rfl | exact Or.inr rfl) (pe_un un_neg (pv 5)))) pss_nil)
      (pss_one (ps_ret (pe_tup (pa_cons (pe_call F_without_zeros (hr.mono (by decide)) rfl g_without_zeros k_without_zeros b_without_zeros .nil pass0 (pa_cons (pe_lc (own := [("number", 4)]) (g := (gName 4)) (tt := tYes) rfl sc_settled.nd (pi_seqB (pv 1)) (blkOk_by (own := [("number", 4)]) (N := ["ground", "numbers", "bottom", "back", "number", "common"]) (sc := defScope s_settled) (by decide +kernel)) (fun _ _ _ _ _ => (pg_name (i := 4) sc_settled.nd rfl (by first | exact Or.inl rfl | exact Or.inr rfl))) (fun _ _ _ _ _ => pts_nil) (fun _ _ _ _ _ => (pe_op op_fdivZ (pv 4) (pv 5)))) pa_nil)) (pa_cons (pe_op op_fdivZ (pv 2) (pv 5)) pa_nil)))))))))
/-! ### divided_modulo -/
theorem sc_divided_modulo : FnScope ["prime", "one", "other", "lower", "rest", "parts", "back", "head", "start", "j", "number"] ["prime", "one", "other"] (defScope s_divided_modulo) := ⟨rfl, rfl, rfl, by decide +kernel, rfl, by decide +kernel, by decide +kernel⟩
def subRow (g h : Int) : List Int → Nat → List Int → List Int
  | z, _, [] => z
  | z, o, y :: ms => subRow g h (z.set o ((z.getD o 0 - h * y) % g)) (o + 1) ms
def divFin (g u : Int) (low : List Int) : Nat → List Int → List Int → List Int × List Int
  | 0, r, ps => (r, ps)
  | k + 1, r, ps => if r.length ≤ low.length then (r, ps) else
      divFin g u low k (if r.getLastD 0 * u % g = 0 then r.dropLast else subRow g (r.getLastD 0 * u % g) r.dropLast (r.dropLast.length - low.length) low) (ps ++ [r.getLastD 0 * u % g])
/-- the quotient and the rest modulo g, u undoing the lead -/
def divR (g u : Int) (low ns : List Int) : List Int × List Int := divFin g u low ns.length ns []
def sp_divided_modulo (K : PySem.W.Frag) : Sp := fun vs H Q _ => ∃ (g : Int) (v w : V) (ns : List Int) (b : Int) (low : List Int) (lead c : Int), vs = [.int g, v, w] ∧ 1 < g ∧ g < 2 ^ 32 ∧ InP K H v ns b ∧ InP K H w (low ++ [lead]) c ∧ ns.length < 2 ^ 18 ∧ low.length < 2 ^ 18 ∧
  (∀ n ∈ ns, 0 ≤ n ∧ n < g) ∧ (∀ n ∈ low, 0 ≤ n ∧ n < g) ∧ ∀ p x y u H', Same H H' → H' p = some (.tup [x, y]) → 0 ≤ u → u < g → (lead * u) % g = ((Nat.gcd (lead % g).natAbs g.natAbs : Nat) : Int) % g →
  InP K H' x (trim (divR g u low ns).2.reverse) 1 → InP K H' y (trim (divR g u low ns).1) 1 → Q (.ref p) H'
theorem len_divided_modulo {K : PySem.W.Frag} {vs : List V} {H : Hp} {Q : VK} {E : XK} (h : sp_divided_modulo K vs H Q E) : vs.length = ["prime", "one", "other"].length := by
  obtain ⟨_, _, _, _, _, _, _, _, rfl, _⟩ := h
  rfl
def t_divided_modulo_f1_b (K : PySem.W.Frag) : TS := (tAsg (tOp rModU (tOp rSub (tOp (rIxA K) (tVar 4) (tOp rAdd (tVar 8) (tVar 9))) (tOp rMulU (tVar 7) (tVar 10))) (tVar 0)) (gSub (tVar 4) (tOp rAdd (tVar 8) (tVar 9)) rSetL))
def t_divided_modulo_w2_c (K : PySem.W.Frag) : TT := (tTest (tOp rGtI (tCB (rLenU K) (tCons (tVar 4) tNil)) (tCB (rLenU K) (tCons (tVar 3) tNil))))
def t_divided_modulo_w2_b (K : PySem.W.Frag) : TS := (tSeq (tAsg (tOp rModU (tOp rMulU (tBM0 K "list" rPop (tVar 4)) (tVar 6)) (tVar 0)) (gName 7))
  (tSeq (tDrop (tBM K "list" rAppend (tVar 5) (tCons (tVar 7) tNil)))
  (tIfS (tTest (tOp rNe (tVar 7) (tC (.int 0)))) (tSeq (tAsg (tOp rSub (tCB (rLenU K) (tCons (tVar 4) tNil)) (tCB (rLenU K) (tCons (tVar 3) tNil))) (gName 8))
  (tFor (iEnT K (tCons (tVar 3) tNil)) (gTup K 2 (gCons (gName 9) (gCons (gName 10) gNil))) (t_divided_modulo_f1_b K))) tNext)))
def t_divided_modulo (K : PySem.W.Frag) : TS := (tSeq (tAsg (tSl (rSlT K) (tOp (rIxA K) (tVar 2) (tC (.int 0))) tNoPart (tPart (tUn rNeg (tC (.int 1))))) (gName 3))
  (tSeq (tPar 4 5 (tCons (tCB (rListOf K) (tCons (tOp (rIxA K) (tVar 1) (tC (.int 0))) tNil)) (tCons (tLst tNil) tNil)))
  (tSeq (tAsg (tCall (sp_undone_modulo K) [] E0 (tCons (tOp (rIxA K) (tOp (rIxA K) (tVar 2) (tC (.int 0))) (tUn rNeg (tC (.int 1)))) (tCons (tVar 0) tNil))) (gName 6))
  (tSeq (tWhile (t_divided_modulo_w2_c K) (t_divided_modulo_w2_b K))
  (tRet (tTup (tCons (tTup (tCons (tCall (sp_without_zeros K) [] E0 (tCons (tRevL K (tVar 5)) tNil)) (tCons (tC (.int 1)) tNil))) (tCons (tTup (tCons (tCall (sp_without_zeros K) [] E0 (tCons (tVar 4) tNil)) (tCons (tC (.int 1)) tNil))) tNil))))))))
theorem subRow_len (g h : Int) : ∀ (ms z : List Int) (o : Nat), (subRow g h z o ms).length = z.length
  | [], z, o => rfl
  | y :: ms, z, o => by rw [subRow, subRow_len g h ms, List.length_set]
theorem subRow_app (g h y : Int) : ∀ (ms z : List Int) (o : Nat), subRow g h z o (ms ++ [y]) = (subRow g h z o ms).set (o + ms.length) (((subRow g h z o ms).getD (o + ms.length) 0 - h * y) % g)
  | [], z, o => rfl
  | m :: ms, z, o => by
    rw [List.cons_append, subRow, subRow_app g h y ms, subRow, List.length_cons, show o + 1 + ms.length = o + (ms.length + 1) by omega]
theorem subRow_in {g h : Int} (hg : 1 < g) : ∀ (ms z : List Int) (o : Nat), (∀ n ∈ z, 0 ≤ n ∧ n < g) → ∀ n ∈ subRow g h z o ms, 0 ≤ n ∧ n < g
  | [], z, o, hz => hz
  | y :: ms, z, o, hz => by
    rw [subRow]
    refine subRow_in hg ms _ _ fun n hn => ?_
    rcases List.mem_or_eq_of_mem_set hn with hn | hn
    · exact hz n hn
    · rw [hn]; exact ⟨Int.emod_nonneg _ (by omega), Int.emod_lt_of_pos _ (by omega)⟩
theorem pure_divided_modulo (K : PySem.W.Frag) (vs : List V) (H : Hp) (Q : VK) (E : XK) (h : sp_divided_modulo K vs H Q E) : t_divided_modulo K { nx := fun _ H' => Q .non H', rt := Q } (start ["prime", "one", "other", "lower", "rest", "parts", "back", "head", "start", "j", "number"] vs) H := by
  obtain ⟨g, v, w, ns, b, low, lead, c, rfl, hg, hg2, hv, hw, l1, l2, z1, z2, hq⟩ := h
  unfold t_divided_modulo
  walk_at "z"
  obtain ⟨a1, _, rfl, h1, A1, rfl, hA1⟩ := id hv
  obtain ⟨a2, _, rfl, h2, A2, rfl, hA2⟩ := id hw
  refine ixT h2 (v := .ref A2) rfl ?_
  walk_at "z"
  have em : (low ++ [lead]).map V.int = low.map V.int ++ [V.int lead] := by simp
  rw [em] at hA2
  refine ⟨A2, _, rfl, hA2, ?_, fun lo hlo => ?_⟩
  · rintro ⟨_, e⟩
    rw [sIx_m1, List.length_append, List.length_singleton] at e
    omega
  rw [cut_last]
  have f1 := same_upd (o := .tup (low.map V.int)) hlo
  have e1 : upd H lo (.tup (low.map V.int)) lo = some (.tup (low.map V.int)) := upd_same
  generalize upd H lo (.tup (low.map V.int)) = G1 at *
  refine ixT (sqT_up h1 f1) (v := .ref A1) rfl ?_
  refine ⟨A1, _, rfl, .inr (sqT_up hA1 f1), fun R hR => ⟨by decide, fun Pp hP => ?_⟩⟩
  have f2 := same_upd (o := .lst (ns.map V.int)) hR
  have e2 : upd G1 R (.lst (ns.map V.int)) R = some (.lst (ns.map V.int)) := upd_same
  have nRP : R ≠ Pp := fun e => by rw [← e, e2] at hP; cases hP
  generalize upd G1 R (.lst (ns.map V.int)) = G2 at *
  have f3 := same_upd (o := .lst []) hP
  have e3 : upd G2 Pp (.lst []) Pp = some (.lst []) := upd_same
  have hP1 : G1 Pp = none := none_back f2 hP
  generalize upd G2 Pp (.lst []) = G3 at *
  walk_at "z"
  have fA := (f1.trans f2).trans f3
  refine ixT (sqT_up h2 fA) (v := .ref A2) rfl ?_
  refine ixT (sqT_up hA2 fA) (v := .int lead) (L2.atI_last _ _) ?_
  refine ⟨lead, g, rfl, by omega, Nat.lt_of_lt_of_le (show g.natAbs < 2 ^ 32 by omega) (Nat.pow_le_pow_right (by decide) (by decide)), fun u G4 f4 u0 u1 eu => ?_⟩
  walk_at "z"
  refine while_of (fun μ σ H' => ∃ rest parts o7 o8 o9 o10, σ = [some (.int g), some (.ref a1), some (.ref a2), some (.ref lo), some (.ref R), some (.ref Pp), some (.int u), o7, o8, o9, o10] ∧ Same G1 H' ∧ H' R = some (.lst (rest.map V.int)) ∧ H' Pp = some (.lst (parts.map V.int)) ∧ μ = rest.length ∧
      rest.length + parts.length = ns.length ∧ (∀ n ∈ rest, 0 ≤ n ∧ n < g) ∧ divFin g u low rest.length rest parts = divR g u low ns) ns.length
    ⟨ns, [], _, _, _, _, rfl, (f2.trans f3).trans f4, f4 _ _ (f3 _ _ e2), f4 _ _ e3, rfl, by simp, z1, rfl⟩ ?_
  rintro μ σ H' ⟨rest, parts, o7, o8, o9, o10, rfl, s, hR', hP', hμ, hl, hz, hfin⟩ N hN hN2
  unfold t_divided_modulo_w2_c t_divided_modulo_w2_b
  walk_at "z"
  have hlo' := s _ _ e1
  refine lenL (sqL_of hR') ?_
  refine lenT (sqT_of hlo') ?_
  walk_at "z"
  rw [List.length_map, List.length_map]
  by_cases hc : low.length < rest.length
  · rw [if_pos (by omega)]
    refine ⟨N, hN2, ?_⟩
    obtain ⟨fr, la, rfl⟩ : ∃ fr la, rest = fr ++ [la] := ⟨rest.dropLast, rest.getLast (by intro e; rw [e] at hc; simp at hc), (List.dropLast_concat_getLast _).symm⟩
    rw [List.length_append, List.length_singleton] at hl hc hμ
    have hla := hz la (by simp)
    have eg : (fr ++ [la]).getLastD 0 = la := by simp
    have ed : (fr ++ [la]).dropLast = fr := by simp
    rw [List.length_append, List.length_singleton, divFin, if_neg (by simp; omega), eg, ed] at hfin
    walk_at "z"
    refine ⟨tyL hR', R, _, .int la, rfl, rfl, hR', by simp, ?_⟩
    rw [List.map_append, List.map_cons, List.map_nil, List.dropLast_concat]
    have s5 : Same G1 (upd H' R (.lst (fr.map V.int))) := same_mutD s hR
    have eR5 : upd H' R (.lst (fr.map V.int)) R = some (.lst (fr.map V.int)) := upd_same
    have eP5 : upd H' R (.lst (fr.map V.int)) Pp = some (.lst (parts.map V.int)) := by rw [upd_ne nRP.symm]; exact hP'
    generalize upd H' R (.lst (fr.map V.int)) = G5 at *
    walk_at "z"
    have hh0 : 0 ≤ la * u % g := Int.emod_nonneg _ (by omega)
    have hh1 : la * u % g < g := Int.emod_lt_of_pos _ (by omega)
    refine ⟨mulS (by omega), by omega, ?_⟩
    refine ⟨tyL eP5, Pp, _, .int (la * u % g), rfl, rfl, eP5, ?_, ?_⟩
    · rw [List.length_map, sizeLine_eq]; omega
    have s6 : Same G1 (upd G5 Pp (.lst (parts.map V.int ++ [.int (la * u % g)]))) := same_mutD s5 hP1
    have eR6 : upd G5 Pp (.lst (parts.map V.int ++ [.int (la * u % g)])) R = some (.lst (fr.map V.int)) := by rw [upd_ne nRP]; exact eR5
    have eP6 : upd G5 Pp (.lst (parts.map V.int ++ [.int (la * u % g)])) Pp = some (.lst ((parts ++ [la * u % g]).map V.int)) := by rw [upd_same]; simp
    generalize upd G5 Pp (.lst (parts.map V.int ++ [.int (la * u % g)])) = G6 at *
    have hz2 : ∀ n ∈ fr, 0 ≤ n ∧ n < g := fun n hn => hz n (by simp [hn])
    dsimp only
    by_cases h0 : la * u % g = 0
    · rw [if_neg (by simpa using h0)]
      rw [if_pos h0] at hfin
      refine hN fr.length _ _ (by omega) ⟨fr, parts ++ [la * u % g], _, _, _, _, rfl, s6, eR6, eP6, rfl, by simp; omega, hz2, hfin⟩
    · rw [if_pos (by simpa using h0)]
      rw [if_neg h0] at hfin
      refine lenL (sqL_of eR6) ?_
      refine lenT (sqT_of (s6 _ _ e1)) ?_
      walk_at "z"
      rw [List.length_map, List.length_map, show (fr.length : Int) - (low.length : Int) = ((fr.length - low.length : Nat) : Int) by omega]
      refine ⟨lo, _, rfl, sqT_of (s6 _ _ e1), for_enT (xs := low.map V.int) (fun j σ H' => ∃ o9 o10, σ = [some (.int g), some (.ref a1), some (.ref a2), some (.ref lo), some (.ref R), some (.ref Pp), some (.int u), some (.int (la * u % g)), some (.int ((fr.length - low.length : Nat) : Int)), o9, o10] ∧ Same G1 H' ∧ H' Pp = some (.lst ((parts ++ [la * u % g]).map V.int)) ∧
          H' R = some (.lst ((subRow g (la * u % g) fr (fr.length - low.length) (low.take j)).map V.int)))
        ⟨_, _, rfl, s6, eP6, by rw [List.take_zero]; exact eR6⟩ (fun i σ H' h => by obtain ⟨_, _, _, s, _⟩ := h; exact sqT_of (s _ _ e1)) (fun j y T σ H2 hy h hT N2 hN2 => ?_) (fun σ H2 h => ?_)⟩
      · obtain ⟨o9, o10, rfl, s7, hP7, hR7⟩ := h
        obtain ⟨m, hm, rfl⟩ := get_int hy
        have hj := lt_of_get hm
        walk_at "z"
        refine ⟨_, sqT_of upd_same, rfl, ?_⟩
        walk_at "z"
        have fT := same_upd (o := .tup [V.int (j : Nat), V.int m]) hT
        replace s7 := s7.trans fT
        replace hP7 := fT _ _ hP7
        replace hR7 := fT _ _ hR7
        generalize upd H2 T (.tup [V.int (j : Nat), V.int m]) = H3 at *
        have hcl : (subRow g (la * u % g) fr (fr.length - low.length) (low.take j)).length = fr.length := subRow_len _ _ _ _ _
        have happ : subRow g (la * u % g) fr (fr.length - low.length) (low.take (j + 1)) = (subRow g (la * u % g) fr (fr.length - low.length) (low.take j)).set (fr.length - low.length + j) (((subRow g (la * u % g) fr (fr.length - low.length) (low.take j)).getD (fr.length - low.length + j) 0 - la * u % g * m) % g) := by
          rw [take_succ_of hm, subRow_app, List.length_take, Nat.min_eq_left (by omega)]
        have hm2 := z2 m (List.mem_of_getElem? hm)
        unfold t_divided_modulo_f1_b
        walk_at "z"
        refine ixL (sqL_of hR7) (v := .int ((subRow g (la * u % g) fr (fr.length - low.length) (low.take j)).getD (fr.length - low.length + j) 0)) ?_ ?_
        · rw [show ((fr.length - low.length : Nat) : Int) + (j : Int) = ((fr.length - low.length + j : Nat) : Int) by omega]
          exact atN (int_get (by omega))
        walk_at "z"
        refine ⟨mulS (by omega), by omega, ?_⟩
        refine setL hR7 (ixn2 (by rw [List.length_map]; omega)) ?_
        refine hN2 _ _ ⟨_, _, rfl, same_mutD s7 hR, by rw [upd_ne nRP.symm]; exact hP7, ?_⟩
        rw [upd_same, happ, List.map_set]
      · obtain ⟨o9, o10, rfl, s7, hP7, hR7⟩ := h
        rw [List.length_map, List.take_length] at hR7
        refine hN fr.length _ _ (by omega) ⟨_, parts ++ [la * u % g], _, _, _, _, rfl, s7, hR7, hP7, by rw [subRow_len], by rw [subRow_len]; simp; omega, subRow_in hg _ _ _ hz2, ?_⟩
        rw [subRow_len]
        exact hfin
  · rw [if_neg (by omega)]
    have hd : divFin g u low rest.length rest parts = (rest, parts) := by
      cases e : rest.length with
      | zero => rfl
      | succ k => rw [divFin, if_pos (by omega)]
    rw [hd] at hfin
    refine ⟨Pp, _, rfl, sqL_of hP', fun q hq1 => ?_⟩
    have g1 := same_upd (o := .lst (parts.map V.int).reverse) hq1
    have k1 : upd H' q (.lst (parts.map V.int).reverse) q = some (.lst (parts.reverse.map V.int)) := by rw [upd_same, List.map_reverse]
    generalize upd H' q (.lst (parts.map V.int).reverse) = J1 at *
    refine ⟨q, parts.reverse, rfl, k1, by rw [List.length_reverse]; omega, fun x J2 g2 hx => ⟨by decide, fun r hr => ?_⟩⟩
    have g3 := same_upd (o := .tup [x, V.int 1]) hr
    have k3 := in_new (b := 1) hr hx
    generalize upd J2 r (.tup [x, V.int 1]) = J3 at *
    have g13 := (g1.trans g2).trans g3
    refine ⟨R, rest, rfl, g13 _ _ hR', by omega, fun y J4 g4 hy => ⟨by decide, fun r2 hr2 => ?_⟩⟩
    have g5 := same_upd (o := .tup [y, V.int 1]) hr2
    have k5 := in_new (b := 1) hr2 hy
    generalize upd J4 r2 (.tup [y, V.int 1]) = J5 at *
    refine ⟨by decide, fun p hp => ?_⟩
    have g6 := same_upd (o := .tup [V.ref r, V.ref r2]) hp
    refine hq p (.ref r) (.ref r2) u _ (f1.trans (s.trans (((g13.trans g4).trans g5).trans g6))) upd_same u0 u1 eu ?_ ?_
    · rw [← hfin]
      exact ((k3.same g4).same g5).same g6
    · rw [← hfin]
      exact k5.same g6

theorem ok_divided_modulo {P : Program} {w : World} {K : PySem.W.Frag} {mg : Str → Option Value} {base : Heap} (T : Tx K mg) : Okk P w K mg base 3 "divided_modulo" ["prime", "one", "other"] (sp_divided_modulo K) := by
  obtain ⟨fd_undone_modulo, F_undone_modulo, b_undone_modulo, g_undone_modulo, k_undone_modulo⟩ := ok_undone_modulo (P := P) (w := w) (base := base) T
  obtain ⟨fd_without_zeros, F_without_zeros, b_without_zeros, g_without_zeros, k_without_zeros⟩ := ok_without_zeros (P := P) (w := w) (base := base) T
  have hf_enumerate := T.n_enumerate
  have hf_len := T.n_len
  have hf_list := T.n_list
  obtain ⟨fd, F⟩ := T.f_divided_modulo
  refine ⟨fd, F.ok sc_divided_modulo (fun vs H Q E h => len_divided_modulo h) (fun cdv A outer s H vs Q E hr h => ⟨t_divided_modulo K, PSs.nox ?_, pure_divided_modulo K vs H Q E h⟩), F.bindsN (fun _ _ _ _ _ _ us hl => match us, hl with | [_, _, _], _ => rfl), T.g_divided_modulo, F.kp⟩
  exact (pss_cons (ps_set (i := 3) sc_divided_modulo.nd rfl (by first | exact Or.inl rfl | exact Or.inr rfl) (pe_slice sl_tup (pe_ix ix_lt (pv 2) pe_int (fun _ _ => rfl)) po_none (po_some (pe_un un_neg pe_int))))
      (pss_cons (ps_par (i := 4) (j := 5) rfl sc_divided_modulo.nd rfl rfl (by decide) rfl rfl (pa_cons (pe_callTy call_list_of (by rfl) hf_list (by decide +kernel) (pa_cons (pe_ix ix_lt (pv 1) pe_int (fun _ _ => rfl)) pa_nil)) (pa_cons (pe_lst pa_nil) pa_nil)) (by rfl))
      (pss_cons (ps_set (i := 6) sc_divided_modulo.nd rfl (by first | exact Or.inl rfl | exact Or.inr rfl) (pe_call F_undone_modulo (hr.mono (by decide)) rfl g_undone_modulo k_undone_modulo b_undone_modulo .nil pass0 (pa_cons (pe_ix ix_lt (pe_ix ix_lt (pv 2) pe_int (fun _ _ => rfl)) (pe_un un_neg pe_int) (fun _ _ => rfl)) (pa_cons (pv 0) pa_nil))))
      (pss_cons (ps_while PassesOwn.never (pt_cmpR op_gt (pe_callB call_len_seq (by rfl) hf_len (by decide +kernel) (pa_cons (pv 4) pa_nil)) (pe_callB call_len_seq (by rfl) hf_len (by decide +kernel) (pa_cons (pv 3) pa_nil)) (nomark _)) (pss_cons (ps_set (i := 7) sc_divided_modulo.nd rfl (by first | exact Or.inl rfl | exact Or.inr rfl) (pe_op op_mod (pe_op op_mulU (pe_bm0 PySem.F.plainAttrs_list PySem.F.slot_list_pop PySem.F.type_list_pop mt_pop (pv 4)) (pv 6)) (pv 0)))
      (pss_cons (ps_expr (pe_bm PySem.F.plainAttrs_list PySem.F.slot_list_append PySem.F.type_list_append mt_append (pv 5) (pa_cons (pv 7) pa_nil)))
      (pss_one (ps_if (pt_cmpR op_ne (pv 7) pe_int (nomark _)) (pss_cons (ps_set (i := 8) sc_divided_modulo.nd rfl (by first | exact Or.inl rfl | exact Or.inr rfl) (pe_op op_sub (pe_callB call_len_seq (by rfl) hf_len (by decide +kernel) (pa_cons (pv 4) pa_nil)) (pe_callB call_len_seq (by rfl) hf_len (by decide +kernel) (pa_cons (pv 3) pa_nil))))
      (pss_one (ps_for PassesOwn.never rfl (pi_enT (by rfl) hf_enumerate (pa_cons (pv 3) pa_nil)) (pg_tup rfl (pgs_cons (pg_name (i := 9) sc_divided_modulo.nd rfl (by first | exact Or.inl rfl | exact Or.inr rfl)) (pgs_cons (pg_name (i := 10) sc_divided_modulo.nd rfl (by first | exact Or.inl rfl | exact Or.inr rfl)) pgs_nil))) (pss_one (ps_asg (pe_op op_mod (pe_op op_sub (pe_ix ix_lt (pv 4) (pe_op op_add (pv 8) (pv 9)) (fun _ _ => rfl)) (pe_op op_mulU (pv 7) (pv 10))) (pv 0)) (pg_sub (pv 4) (pe_op op_add (pv 8) (pv 9)) set_list)))))) pss_nil)))))
      (pss_one (ps_ret (pe_tup (pa_cons (pe_tup (pa_cons (pe_call F_without_zeros (hr.mono (by decide)) rfl g_without_zeros k_without_zeros b_without_zeros .nil pass0 (pa_cons (pe_revL (pv 5)) pa_nil)) (pa_cons pe_int pa_nil))) (pa_cons (pe_tup (pa_cons (pe_call F_without_zeros (hr.mono (by decide)) rfl g_without_zeros k_without_zeros b_without_zeros .nil pass0 (pa_cons (pv 4) pa_nil)) (pa_cons pe_int pa_nil))) pa_nil)))))))))
/-! ### changes_at -/
theorem sc_changes_at : FnScope ["row", "end", "far", "many", "before", "inner", "sign"] ["row", "end", "far"] (defScope s_changes_at) := ⟨rfl, rfl, rfl, by decide +kernel, rfl, by decide +kernel, by decide +kernel⟩
def sp_changes_at (K : PySem.W.Frag) : Sp := fun vs H Q _ => ∃ (a : Addr) (w : V) (xs : List V) (ps : List Ip) (e : Option (Int × Int)) (far : Int), vs = [.ref a, w, .int far] ∧ H a = some (.lst xs) ∧ RowQ K H xs ps ∧ ps.length < 40 ∧ EndV H w e ∧ (ps.all fun p => signB p e) = true ∧ (far = 1 ∨ far = -1) ∧ ∀ H', Same H H' → Q (.int (chQ ps e far)) H'
theorem len_changes_at {K : PySem.W.Frag} {vs : List V} {H : Hp} {Q : VK} {E : XK} (h : sp_changes_at K vs H Q E) : vs.length = ["row", "end", "far"].length := by
  obtain ⟨_, _, _, _, _, _, rfl, _⟩ := h
  rfl
def t_changes_at_f1_b (K : PySem.W.Frag) : TS := (tSeq (tAsg (tCall (sp_sign_at K) [] E0 (tCons (tVar 5) (tCons (tVar 1) (tCons (tVar 2) tNil)))) (gName 6))
  (tIfS (tTest (tOp rNe (tVar 6) (tC (.int 0)))) (tSeq (tIfS (tTest (tOp rEq (tOp rMulU (tVar 6) (tVar 4)) (tUn rNeg (tC (.int 1))))) (tAug 3 (tC (.int 1)) (ipI fun i j => i + j)) tNext)
  (tAsg (tVar 6) (gName 4))) tNext))
def t_changes_at (K : PySem.W.Frag) : TS := (tSeq (tAsg (tTup (tCons (tC (.int 0)) (tCons (tC (.int 0)) tNil))) (gTup K 2 (gCons (gName 3) (gCons (gName 4) gNil))))
  (tSeq (tFor (iList K (tVar 0)) (gName 5) (t_changes_at_f1_b K))
  (tRet (tVar 3))))
theorem pure_changes_at (K : PySem.W.Frag) (vs : List V) (H : Hp) (Q : VK) (E : XK) (h : sp_changes_at K vs H Q E) : t_changes_at K { nx := fun _ H' => Q .non H', rt := Q } (start ["row", "end", "far", "many", "before", "inner", "sign"] vs) H := by
  obtain ⟨a, w, xs, ps, e, far, rfl, ha, hr, hl, he, hok, hf, hq⟩ := h
  unfold t_changes_at
  walk_at "z"
  refine ⟨by decide, fun T hT => ?_⟩
  have f1 := same_upd (o := .tup [V.int 0, V.int 0]) hT
  have eT : upd H T (.tup [V.int 0, V.int 0]) T = some (.tup [V.int 0, V.int 0]) := upd_same
  generalize upd H T (.tup [V.int 0, V.int 0]) = G1 at *
  refine ⟨_, sqT_of eT, rfl, ?_⟩
  walk_at "z"
  refine ⟨a, rfl, ⟨_, sqL_of (f1 _ _ ha)⟩, for_L (xs := xs) (fun i σ H' => ∃ m t o5 o6, σ = [some (.ref a), some w, some (.int far), some (.int m), some (.int t), o5, o6] ∧ Same H H' ∧ chGo e far (ps.drop i) m t = chQ ps e far ∧ 0 ≤ m ∧ m ≤ i ∧ t.natAbs ≤ 1)
    ⟨0, 0, _, _, rfl, f1, rfl, by decide, by decide, by decide⟩ (fun i σ H' _ h => by obtain ⟨_, _, _, _, _, s, _⟩ := h; exact sqL_of (s _ _ ha)) (fun i x σ H' hx h N hN => ?_) (fun σ H' h => ?_)⟩
  · obtain ⟨m, t, o5, o6, rfl, s, hg, m0, m1, ht⟩ := h
    have hi : i < ps.length := by rw [← hr.1]; exact (List.getElem?_eq_some_iff.mp hx).1
    have hp := List.getElem?_eq_getElem hi
    rw [drop_of_get hp, chGo] at hg
    have hs : signB ps[i] e = true := List.all_eq_true.mp hok _ (List.getElem_mem hi)
    have hle := signQ_le (p := ps[i]) (e := e) hf
    unfold t_changes_at_f1_b
    walk_at "z"
    refine ⟨x, w, _, e, far, rfl, (hr.2 i x _ hx hp).same s, he.same s, hs, hf, fun H2 s2 => ?_⟩
    walk_at "z"
    by_cases h0 : signQ ps[i] e far = 0
    · rw [if_pos h0] at hg
      rw [if_neg (by simpa using h0)]
      exact hN _ _ ⟨m, t, _, _, rfl, s.trans s2, hg, m0, by omega, ht⟩
    · rw [if_neg h0] at hg
      rw [if_pos (by simpa using h0)]
      refine ⟨mulS (by omega), ?_⟩
      walk_at "z"
      by_cases h1 : signQ ps[i] e far * t = -1
      · rw [if_pos h1] at hg
        rw [if_pos (by simpa using h1)]
        walk_at "z"
        exact hN _ _ ⟨m + 1, _, _, _, rfl, s.trans s2, hg, by omega, by omega, hle⟩
      · rw [if_neg h1] at hg
        rw [if_neg (by simpa using h1)]
        walk_at "z"
        exact hN _ _ ⟨m, _, _, _, rfl, s.trans s2, hg, by omega, by omega, hle⟩
  · obtain ⟨m, t, o5, o6, rfl, s, hg, _⟩ := h
    rw [hr.1, List.drop_length] at hg
    have hg : m = chQ ps e far := hg
    walk_at "z"
    rw [hg]
    exact hq _ s
theorem ok_changes_at {P : Program} {w : World} {K : PySem.W.Frag} {mg : Str → Option Value} {base : Heap} (T : Tx K mg) : Okk P w K mg base 3 "changes_at" ["row", "end", "far"] (sp_changes_at K) := by
  obtain ⟨fd_sign_at, F_sign_at, b_sign_at, g_sign_at, k_sign_at⟩ := ok_sign_at (P := P) (w := w) (base := base) T
  obtain ⟨fd, F⟩ := T.f_changes_at
  refine ⟨fd, F.ok sc_changes_at (fun vs H Q E h => len_changes_at h) (fun cdv A outer s H vs Q E hr h => ⟨t_changes_at K, PSs.nox ?_, pure_changes_at K vs H Q E h⟩), F.bindsN (fun _ _ _ _ _ _ us hl => match us, hl with | [_, _, _], _ => rfl), T.g_changes_at, F.kp⟩
  exact (pss_cons (ps_asg (pe_tup (pa_cons pe_int (pa_cons pe_int pa_nil))) (pg_tup rfl (pgs_cons (pg_name (i := 3) sc_changes_at.nd rfl (by first | exact Or.inl rfl | exact Or.inr rfl)) (pgs_cons (pg_name (i := 4) sc_changes_at.nd rfl (by first | exact Or.inl rfl | exact Or.inr rfl)) pgs_nil))))
      (pss_cons (ps_for PassesOwn.never rfl (pi_list (pv 0)) (pg_name (i := 5) sc_changes_at.nd rfl (by first | exact Or.inl rfl | exact Or.inr rfl)) (pss_cons (ps_set (i := 6) sc_changes_at.nd rfl (by first | exact Or.inl rfl | exact Or.inr rfl) (pe_call F_sign_at (hr.mono (by decide)) rfl g_sign_at k_sign_at b_sign_at .nil pass0 (pa_cons (pv 5) (pa_cons (pv 1) (pa_cons (pv 2) pa_nil)))))
      (pss_one (ps_if (pt_cmpR op_ne (pv 6) pe_int (nomark _)) (pss_cons (ps_if (pt_cmpR op_eq (pe_op op_mulU (pv 6) (pv 4)) (pe_un un_neg pe_int) (nomark _)) (pss_one (ps_aug (i := 3) sc_changes_at.nd rfl (by first | exact Or.inl rfl | exact Or.inr rfl) pe_int ip_add)) pss_nil)
      (pss_one (ps_set (i := 4) sc_changes_at.nd rfl (by first | exact Or.inl rfl | exact Or.inr rfl) (pv 6)))) pss_nil))))
      (pss_one (ps_ret (pv 3)))))
/-! ### later_of -/
theorem sc_later_of : FnScope ["one", "other"] ["one", "other"] (defScope s_later_of) := ⟨rfl, rfl, rfl, by decide +kernel, rfl, by decide +kernel, by decide +kernel⟩
def sp_later_of (K : PySem.W.Frag) : Sp := fun _ _ _ _ => False
theorem len_later_of {K : PySem.W.Frag} {vs : List V} {H : Hp} {Q : VK} {E : XK} (h : sp_later_of K vs H Q E) : vs.length = ["one", "other"].length := h.elim
theorem ok_later_of {P : Program} {w : World} {K : PySem.W.Frag} {mg : Str → Option Value} {base : Heap} (T : Tx K mg) : Okk P w K mg base 3 "later_of" ["one", "other"] (sp_later_of K) := by
  obtain ⟨fd, F⟩ := T.f_later_of
  exact ⟨fd, F.ok sc_later_of (fun vs H Q E h => len_later_of h) (fun cdv A outer s H vs Q E hr h => h.elim), F.bindsN (fun _ _ _ _ _ _ us hl => match us, hl with | [_, _], _ => rfl), T.g_later_of, F.kp⟩
/-! ### earlier_of -/
theorem sc_earlier_of : FnScope ["one", "other"] ["one", "other"] (defScope s_earlier_of) := ⟨rfl, rfl, rfl, by decide +kernel, rfl, by decide +kernel, by decide +kernel⟩
def sp_earlier_of (K : PySem.W.Frag) : Sp := fun _ _ _ _ => False
theorem len_earlier_of {K : PySem.W.Frag} {vs : List V} {H : Hp} {Q : VK} {E : XK} (h : sp_earlier_of K vs H Q E) : vs.length = ["one", "other"].length := h.elim
theorem ok_earlier_of {P : Program} {w : World} {K : PySem.W.Frag} {mg : Str → Option Value} {base : Heap} (T : Tx K mg) : Okk P w K mg base 3 "earlier_of" ["one", "other"] (sp_earlier_of K) := by
  obtain ⟨fd, F⟩ := T.f_earlier_of
  exact ⟨fd, F.ok sc_earlier_of (fun vs H Q E h => len_earlier_of h) (fun cdv A outer s H vs Q E hr h => h.elim), F.bindsN (fun _ _ _ _ _ _ us hl => match us, hl with | [_, _], _ => rfl), T.g_earlier_of, F.kp⟩
/-! ### is_stretch -/
theorem sc_is_stretch : FnScope ["low", "high"] ["low", "high"] (defScope s_is_stretch) := ⟨rfl, rfl, rfl, by decide +kernel, rfl, by decide +kernel, by decide +kernel⟩
theorem stl_q {zs : List Int} {B : Int} {ks : List Int} {k : Int} (h : Stl 0 zs B ks k) (hB : B ≠ 0) : (ks, k) = stQ zs B := by
  obtain ⟨c, c0, cB, cz, cg, c1, rfl, rfl⟩ := h.2 rfl
  obtain ⟨g1, g2⟩ := gcdL_dvd zs (B.natAbs : Int)
  have g3 := gcdL_nn zs (B.natAbs : Int) (by omega)
  have d1 : gcdL (B.natAbs : Int) zs ∣ c := cg _ (Int.natAbs_dvd_natAbs.mp (by have := Int.natAbs_dvd_natAbs.mpr g1; simpa using this)) g2
  have d2 : c ∣ gcdL (B.natAbs : Int) zs := gcdL_gr zs _ (Int.natAbs_dvd_natAbs.mp (by have := Int.natAbs_dvd_natAbs.mpr cB; simpa using this)) cz
  have e : c.natAbs = (gcdL (B.natAbs : Int) zs).natAbs := Nat.dvd_antisymm (Int.natAbs_dvd_natAbs.mpr d2) (Int.natAbs_dvd_natAbs.mpr d1)
  have sg : (B < 0 → c < 0) ∧ (0 < B → 0 < c) := by
    obtain ⟨y, rfl⟩ := cB
    rw [Int.mul_ediv_cancel_left _ c0] at c1
    refine ⟨fun h => ?_, fun h => ?_⟩
    · refine Classical.byContradiction fun hn => ?_
      have := Int.mul_nonneg (show 0 ≤ c by omega) (show 0 ≤ y by omega)
      omega
    · refine Classical.byContradiction fun hn => ?_
      have := Int.mul_nonpos_of_nonpos_of_nonneg (show c ≤ 0 by omega) (show 0 ≤ y by omega)
      omega
  unfold stQ
  by_cases hb : B < 0
  · have := sg.1 hb
    rw [if_pos hb, show -gcdL (B.natAbs : Int) zs = c by omega]
  · have := sg.2 (by omega)
    rw [if_neg hb, show gcdL (B.natAbs : Int) zs = c by omega]
def sp_is_stretch (K : PySem.W.Frag) : Sp := fun vs H Q _ => ∃ (v w : V) (e f : Option (Int × Int)), vs = [v, w] ∧ EndV H v e ∧ EndV H w f ∧ (∀ a b, e = some (a, b) → Sz 3000 a ∧ Sz 3000 b) ∧ (∀ a b, f = some (a, b) → Sz 3000 a ∧ Sz 3000 b) ∧
  ∀ H', Same H H' → Q (.bl (match e, f with | some (a, b), some (c, d) => decide (a * d < c * b) | _, _ => true)) H'
theorem len_is_stretch {K : PySem.W.Frag} {vs : List V} {H : Hp} {Q : VK} {E : XK} (h : sp_is_stretch K vs H Q E) : vs.length = ["low", "high"].length := by
  obtain ⟨_, _, _, _, rfl, _⟩ := h
  rfl
def t_is_stretch (K : PySem.W.Frag) : TS := (tRet (tOrV (tIsN (tVar 0)) (tOrV (tIsN (tVar 1)) (tOp rEq (tCall (sp_sign_of_difference K) [] E0 (tCons (tVar 0) (tCons (tVar 1) tNil))) (tUn rNeg (tC (.int 1)))))))
theorem pure_is_stretch (K : PySem.W.Frag) (vs : List V) (H : Hp) (Q : VK) (E : XK) (h : sp_is_stretch K vs H Q E) : t_is_stretch K { nx := fun _ H' => Q .non H', rt := Q } (start ["low", "high"] vs) H := by
  obtain ⟨v, w, e, f, rfl, he, hf, se, sf, hq⟩ := h
  unfold t_is_stretch
  walk_at "z"
  have hq := hq H (Same.refl _)
  cases e with
  | none =>
    obtain rfl : v = .non := he
    rw [if_pos rfl]
    exact hq
  | some q =>
    obtain ⟨a, b⟩ := q
    have nv : v ≠ .non := by
      intro h
      rcases he with ⟨_, ⟨p, e, _⟩, _⟩ | ⟨h0, _⟩
      · rw [h] at e; cases e
      · exact absurd rfl h0
    rw [if_neg nv]
    walk_at "z"
    cases f with
    | none =>
      obtain rfl : w = .non := hf
      rw [if_pos rfl]
      exact hq
    | some q2 =>
      obtain ⟨c, d⟩ := q2
      have nw : w ≠ .non := by
        intro h
        rcases hf with ⟨_, ⟨p, e, _⟩, _⟩ | ⟨h0, _⟩
        · rw [h] at e; cases e
        · exact absurd rfl h0
      rw [if_neg nw]
      obtain ⟨s1, s2⟩ := se a b rfl
      obtain ⟨s3, s4⟩ := sf c d rfl
      refine ⟨v, w, a, b, c, d, rfl, he, hf, s1, s2, s3, s4, ?_⟩
      walk_at "z"
      have e1 : decide ((if a * d = c * b then (0 : Int) else if a * d < c * b then -1 else 1) = -1) = decide (a * d < c * b) := by
        by_cases h1 : a * d = c * b
        · rw [if_pos h1, decide_eq_false (by omega), decide_eq_false (by omega)]
        · rw [if_neg h1]
          by_cases h2 : a * d < c * b
          · rw [if_pos h2, decide_eq_true h2]; rfl
          · rw [if_neg h2, decide_eq_false h2]; rfl
      rw [e1]
      exact hq
theorem ok_is_stretch {P : Program} {w : World} {K : PySem.W.Frag} {mg : Str → Option Value} {base : Heap} (T : Tx K mg) : Okk P w K mg base 3 "is_stretch" ["low", "high"] (sp_is_stretch K) := by
  obtain ⟨fd_sign_of_difference, F_sign_of_difference, b_sign_of_difference, g_sign_of_difference, k_sign_of_difference⟩ := ok_sign_of_difference (P := P) (w := w) (base := base) T
  obtain ⟨fd, F⟩ := T.f_is_stretch
  refine ⟨fd, F.ok sc_is_stretch (fun vs H Q E h => len_is_stretch h) (fun cdv A outer s H vs Q E hr h => ⟨t_is_stretch K, PSs.nox ?_, pure_is_stretch K vs H Q E h⟩), F.bindsN (fun _ _ _ _ _ _ us hl => match us, hl with | [_, _], _ => rfl), T.g_is_stretch, F.kp⟩
  exact (pss_one (ps_ret (pe_or (pe_cmp (pc_isN (pv 0))) (pe_or (pe_cmp (pc_isN (pv 1))) (pe_one (pe_cmpR op_eq (pe_call F_sign_of_difference (hr.mono (by decide)) rfl g_sign_of_difference k_sign_of_difference b_sign_of_difference .nil pass0 (pa_cons (pv 0) (pa_cons (pv 1) pa_nil))) (pe_un un_neg pe_int) (nomark _)))))))
/-! ### vector_fits -/
theorem sc_vector_fits : FnScope ["ground", "value", "many", "limit", "number"] ["ground", "value", "many", "limit"] (defScope s_vector_fits) := ⟨rfl, rfl, rfl, by decide +kernel, rfl, by decide +kernel, by decide +kernel⟩
def sp_vector_fits (K : PySem.W.Frag) : Sp := fun vs H Q _ => ∃ (g : Int) (v : V) (d : PyData) (m : Nat) (l : Int) (no : List Addr), vs = [.int g, v, .int (m : Int), .int l] ∧ Pl H no d v ∧ m < 2 ^ 20 ∧ ∀ H', Same H H' → Q (.bl (vecB g m l d)) H'
theorem len_vector_fits {K : PySem.W.Frag} {vs : List V} {H : Hp} {Q : VK} {E : XK} (h : sp_vector_fits K vs H Q E) : vs.length = ["ground", "value", "many", "limit"].length := by
  obtain ⟨_, _, _, _, _, _, rfl, _⟩ := h
  rfl
def t_vector_fits (K : PySem.W.Frag) : TS := (tSeq (tIfS (tOr (tNot (tB (tCB (rIsi K) (tCons (tVar 1) (tCons (tC (.ty "tuple")) tNil))))) (tTest (tOp rNe (tCB (rLenU K) (tCons (tVar 1) tNil)) (tVar 2)))) (tRet (tC (.bl false))) tNext)
  (tRet (tCB (rAll K) (tCons (tLc (iTup K (tVar 1)) (gName 4) tYes (tCall (sp_number_fits K) [] E0 (tCons (tVar 0) (tCons (tVar 4) (tCons (tVar 3) tNil)))) [4]) tNil))))
theorem lenB_tup {m : Int} {d : PyData} (h : lenB m d = true) : ∃ ds, d = .tuple ds ∧ 1 ≤ ds.length ∧ (ds.length : Int) ≤ m := by
  cases d with
  | tuple ds =>
    rw [lenB_t] at h
    rw [decide_eq_true_eq] at h
    exact ⟨ds, rfl, h⟩
  | _ => simp [lenB] at h
theorem all_bl (f : PyData → Bool) (ds : List PyData) : outL (fun i => (ds[i]?).map fun d => V.bl (f d)) ds.length = (ds.map f).map V.bl := by
  rw [outL_map]
  simp [List.map_map, Function.comp_def]
theorem pure_vector_fits (K : PySem.W.Frag) (vs : List V) (H : Hp) (Q : VK) (E : XK) (h : sp_vector_fits K vs H Q E) : t_vector_fits K { nx := fun _ H' => Q .non H', rt := Q } (start ["ground", "value", "many", "limit", "number"] vs) H := by
  obtain ⟨g, v, d, m, l, no, rfl, p, hm, hq⟩ := h
  unfold t_vector_fits
  walk_at "z"
  refine isi_pl p ?_
  walk_at "z"
  cases h : isTup d with
  | false =>
    have e : vecB g m l d = false := by
      cases d <;> first | rfl | simp [isTup] at h
    have := hq H (Same.refl H)
    rw [e] at this
    simpa using this
  | true =>
    obtain ⟨ds, rfl⟩ := tup_of h
    obtain ⟨a, xs, rfl, hT, hA⟩ := pl_tup p
    rw [if_neg (by decide)]
    refine lenT (sqT_of hT) ?_
    walk_at "z"
    by_cases hl : xs.length = m
    · rw [if_neg (by omega)]
      refine ⟨a, rfl, ⟨_, sqT_of hT⟩, comp_T (sqT_of hT) (fun i => (ds[i]?).map fun d => .bl (numB g l d)) (by omega) (fun i x H' hx s Qo hQo => ?_) (fun D H' s hD => ?_)⟩
      · obtain ⟨e, he, pe⟩ := hA.get hx
        walk_at "z"
        obtain ⟨k2, kn⟩ := pl_num (g := g) (l := l) (pe.same s)
        refine ⟨g, x, l, rfl, k2, fun b hb => ?_⟩
        have := hQo H' (Same.refl _)
        rw [he] at this
        have e : b = numB g l e := by rw [Bool.eq_iff_iff, hb, kn]
        rw [e]
        exact this
      · rw [hA.1, all_bl] at hD
        refine ⟨D, _, rfl, sqL_of hD, ?_⟩
        have := hq H' s
        rw [vecB_t] at this
        rw [decide_eq_true (by rw [← hA.1]; exact hl), Bool.true_and] at this
        rw [List.all_map]
        exact this
    · rw [if_pos (by omega)]
      have := hq H (Same.refl H)
      rw [vecB_t] at this
      rw [decide_eq_false (by rw [← hA.1]; exact hl), Bool.false_and] at this
      exact this
theorem ok_vector_fits {P : Program} {w : World} {K : PySem.W.Frag} {mg : Str → Option Value} {base : Heap} (T : Tx K mg) : Okk P w K mg base 4 "vector_fits" ["ground", "value", "many", "limit"] (sp_vector_fits K) := by
  obtain ⟨fd_number_fits, F_number_fits, b_number_fits, g_number_fits, k_number_fits⟩ := ok_number_fits (P := P) (w := w) (base := base) T
  have hf_all := T.n_all
  have hf_isinstance := T.n_isinstance
  have hf_len := T.n_len
  have hf_tuple := T.n_tuple
  obtain ⟨fd, F⟩ := T.f_vector_fits
  refine ⟨fd, F.ok sc_vector_fits (fun vs H Q E h => len_vector_fits h) (fun cdv A outer s H vs Q E hr h => ⟨t_vector_fits K, PSs.nox ?_, pure_vector_fits K vs H Q E h⟩), F.bindsN (fun _ _ _ _ _ _ us hl => match us, hl with | [_, _, _, _], _ => rfl), T.g_vector_fits, F.kp⟩
  exact (pss_cons (ps_if (PW.pt (pw_or (pt_not (pt_val (pe_callB call_isi (by rfl) hf_isinstance (by decide +kernel) (pa_cons (pv 1) (pa_cons (pe_bltn (v := .ty "tuple") rfl hf_tuple (by decide +kernel) rfl) pa_nil))))) (pw_or1 (pt_cmpR op_ne (pe_callB call_len_seq (by rfl) hf_len (by decide +kernel) (pa_cons (pv 1) pa_nil)) (pv 2) (nomark _))))) (pss_one (ps_ret pe_bl)) pss_nil)
      (pss_one (ps_ret (pe_callB (cr_all rfl) (by rfl) hf_all (by decide +kernel) (pa_cons (pe_lc (own := [("number", 4)]) (g := (gName 4)) (tt := tYes) rfl sc_vector_fits.nd (pi_tup (pv 1)) (blkOk_by (own := [("number", 4)]) (N := ["ground", "value", "many", "limit", "number"]) (sc := defScope s_vector_fits) (by decide +kernel)) (fun _ _ _ _ _ => (pg_name (i := 4) sc_vector_fits.nd rfl (by first | exact Or.inl rfl | exact Or.inr rfl))) (fun _ _ _ _ _ => pts_nil) (fun _ _ _ _ _ => (pe_call F_number_fits (hr.mono (by decide)) rfl g_number_fits k_number_fits b_number_fits .nil pass0 (pa_cons (pv 0) (pa_cons (pv 4) (pa_cons (pv 3) pa_nil)))))) pa_nil)))))
/-! ### closed -/
theorem sc_closed : FnScope ["ground", "inner", "numbers", "bottom", "number"] ["ground", "inner"] (defScope s_closed) := ⟨rfl, rfl, rfl, by decide +kernel, rfl, by decide +kernel, by decide +kernel⟩
def sp_closed (K : PySem.W.Frag) : Sp := fun vs H Q _ => ∃ (g : Int) (v : V) (ns : List Int) (b : Int), vs = [.int g, v] ∧ InP K H v ns b ∧ ns.length < 2 ^ 20 ∧ (g = 0 → b ≠ 0 ∧ Sz 8000 b) ∧ ∀ x H', Same H H' → (g ≠ 0 → TupI K H' x ns) → (g = 0 → ∃ p ys, x = .ref p ∧ H' p = some (.tup ys) ∧ ys.length = ns.length) → Q x H'
theorem len_closed {K : PySem.W.Frag} {vs : List V} {H : Hp} {Q : VK} {E : XK} (h : sp_closed K vs H Q E) : vs.length = ["ground", "inner"].length := by
  obtain ⟨_, _, _, _, rfl, _⟩ := h
  rfl
def t_closed (K : PySem.W.Frag) : TS := (tSeq (tAsg (tVar 1) (gTup K 2 (gCons (gName 2) (gCons (gName 3) gNil))))
  (tSeq (tIfS (tTest (tOp rNe (tVar 0) (tC (.int 0)))) (tRet (tVar 2)) tNext)
  (tRet (tCB (rTupOf K) (tCons (tLc (iTup K (tVar 2)) (gName 4) tYes (tCall (sp_quotient K) [] E0 (tCons (tC (.int 0)) (tCons (tVar 4) (tCons (tVar 3) tNil)))) [4]) tNil)))))
theorem lc_num {K : PySem.W.Frag} {b : Bool} {a : Addr} {ns : List Int} {g : TG} {te : TE} {vs : List Nat} {σ : St} {H1 : Hp} {Q : VK} (hT : SqB b K H1 a (ns.map V.int)) (hn : ns.length < 2 ^ 20)
    (turn : ∀ (i : Nat) (n : Int) (H' : Hp), ns[i]? = some n → Same H1 H' → ∀ Qo : VK, (∀ H2 y, Same H' H2 → Qo y H2) → g (.int n) (wipe σ vs) H' fun σ2 H2 => wipe σ2 vs = wipe σ vs ∧ te σ2 H2 Qo)
    (fin : ∀ D H' zs, H1 D = none → Same H1 H' → H' D = some (.lst zs) → zs.length = ns.length → Q (.ref D) H') : LcW (ItB b K a) H1 g tYes te vs σ Q := fun D hD => by
  have key : ∀ i (H' : Hp), (Same H1 H' ∧ ∃ zs, H' D = some (.lst zs) ∧ zs.length = i) → i < ns.length → ∀ n, ns[i]? = some n → g (.int n) (wipe σ vs) H' fun σ2 H2 => wipe σ2 vs = wipe σ vs ∧ te σ2 H2 fun y H4 => OutOf D (fun H' => Same H1 H' ∧ ∃ zs, H' D = some (.lst zs) ∧ zs.length = i + 1) (some y) H4 := by
    intro i H' hp hi n hx
    refine turn i n H' hx hp.1 _ fun H2 y s => ?_
    obtain ⟨zs, hz, hl⟩ := hp.2
    refine ⟨zs, s _ _ hz, by rw [hl]; exact Nat.lt_of_lt_of_le (Nat.lt_trans hi hn) (by decide), same_mutD (hp.1.trans s) hD, zs ++ [y], upd_same, by simp [hl]⟩
  have get : ∀ {i : Nat} {x : V}, (ns.map V.int)[i]? = some x → ∃ n, ns[i]? = some n ∧ x = .int n := fun {i x} hx => by
    rw [List.getElem?_map] at hx
    obtain ⟨n, hn, rfl⟩ := Option.map_eq_some_iff.mp hx
    exact ⟨n, hn, rfl⟩
  cases b
  · refine lc_tup (K := K) (a := a) (xs := ns.map V.int) (fun i H' => Same H1 H' ∧ ∃ zs, H' D = some (.lst zs) ∧ zs.length = i) ⟨same_upd hD, [], upd_same, rfl⟩ (fun i H' _ p => sqT_up hT p.1) (fun i x H' hx p => ?_) (fun H' ⟨s, zs, hz, hl⟩ => fin D H' zs hD s hz (by rw [hl, List.length_map]))
    obtain ⟨n, hn2, rfl⟩ := get hx
    exact key i H' p (List.getElem?_eq_some_iff.mp hn2).1 n hn2
  · refine lc_list (K := K) (a := a) (xs := ns.map V.int) (fun i H' => Same H1 H' ∧ ∃ zs, H' D = some (.lst zs) ∧ zs.length = i) ⟨same_upd hD, [], upd_same, rfl⟩ (fun i H' _ p => p.1.seq hT) (fun i x H' hx p => ?_) (fun H' ⟨s, zs, hz, hl⟩ => fin D H' zs hD s hz (by rw [hl, List.length_map]))
    obtain ⟨n, hn2, rfl⟩ := get hx
    exact key i H' p (List.getElem?_eq_some_iff.mp hn2).1 n hn2
theorem pure_closed (K : PySem.W.Frag) (vs : List V) (H : Hp) (Q : VK) (E : XK) (h : sp_closed K vs H Q E) : t_closed K { nx := fun _ H' => Q .non H', rt := Q } (start ["ground", "inner", "numbers", "bottom", "number"] vs) H := by
  obtain ⟨g, v, ns, b, rfl, hv, hl, hb, hq⟩ := h
  obtain ⟨a, t, rfl, ha, ht⟩ := hv
  unfold t_closed
  walk_at "z"
  refine ⟨_, ha, rfl, ?_⟩
  walk_at "z"
  by_cases h0 : g = 0
  · subst h0
    obtain ⟨b0, sb⟩ := hb rfl
    walk_at "z"
    obtain ⟨c, rfl, hc⟩ := ht
    refine ⟨c, rfl, ⟨_, hc⟩, lc_num (b := false) hc hl (fun i n H2 hn s Qo hQo => ?_) (fun D H2 zs _ s hz hzl => ?_)⟩
    · walk_at "z"
      refine ⟨0, n, b, rfl, by decide, fun _ => ⟨b0, sb, fun p x y H3 s3 _ _ _ hp => hQo _ _ s3⟩, fun h => absurd rfl h⟩
    · refine ⟨D, zs, rfl, .inl ⟨sqL_of hz, fun p hp => hq _ _ (s.trans (same_upd hp)) (fun h => absurd rfl h) fun _ => ⟨p, zs, rfl, upd_same, hzl⟩⟩⟩
  · rw [if_pos h0]
    exact hq _ _ (Same.refl _) (fun _ => ht) fun h => absurd h h0
theorem ok_closed {P : Program} {w : World} {K : PySem.W.Frag} {mg : Str → Option Value} {base : Heap} (T : Tx K mg) : Okk P w K mg base 4 "closed" ["ground", "inner"] (sp_closed K) := by
  obtain ⟨fd_quotient, F_quotient, b_quotient, g_quotient, k_quotient⟩ := ok_quotient (P := P) (w := w) (base := base) T
  have hf_tuple := T.n_tuple
  obtain ⟨fd, F⟩ := T.f_closed
  refine ⟨fd, F.ok sc_closed (fun vs H Q E h => len_closed h) (fun cdv A outer s H vs Q E hr h => ⟨t_closed K, PSs.nox ?_, pure_closed K vs H Q E h⟩), F.bindsN (fun _ _ _ _ _ _ us hl => match us, hl with | [_, _], _ => rfl), T.g_closed, F.kp⟩
  exact (pss_cons (ps_asg (pv 1) (pg_tup rfl (pgs_cons (pg_name (i := 2) sc_closed.nd rfl (by first | exact Or.inl rfl | exact Or.inr rfl)) (pgs_cons (pg_name (i := 3) sc_closed.nd rfl (by first | exact Or.inl rfl | exact Or.inr rfl)) pgs_nil))))
      (pss_cons (ps_if (pt_cmpR op_ne (pv 0) pe_int (nomark _)) (pss_one (ps_ret (pv 2))) pss_nil)
      (pss_one (ps_ret (pe_callTy call_tuple_of (by rfl) hf_tuple (by decide +kernel) (pa_cons (pe_lc (own := [("number", 4)]) (g := (gName 4)) (tt := tYes) rfl sc_closed.nd (pi_tup (pv 2)) (blkOk_by (own := [("number", 4)]) (N := ["ground", "inner", "numbers", "bottom", "number"]) (sc := defScope s_closed) (by decide +kernel)) (fun _ _ _ _ _ => (pg_name (i := 4) sc_closed.nd rfl (by first | exact Or.inl rfl | exact Or.inr rfl))) (fun _ _ _ _ _ => pts_nil) (fun _ _ _ _ _ => (pe_call F_quotient (hr.mono (by decide)) rfl g_quotient k_quotient b_quotient .nil pass0 (pa_cons pe_int (pa_cons (pv 4) (pa_cons (pv 3) pa_nil)))))) pa_nil))))))
/-! ### divided_by -/
theorem sc_divided_by : FnScope ["ground", "one", "other", "lower", "lead", "rest", "parts", "scale", "head", "common", "up", "number", "part", "start", "j"] ["ground", "one", "other"] (defScope s_divided_by) := ⟨rfl, rfl, rfl, by decide +kernel, rfl, by decide +kernel, by decide +kernel⟩
def sp_divided_by (K : PySem.W.Frag) : Sp := fun vs H Q _ => ∃ (v w : V) (p q : Ip), vs = [.int 0, v, w] ∧ InQ K H v p ∧ InQ K H w q ∧ divOk p q = true ∧ ∀ t x y H', Same H H' → H' t = some (.tup [x, y]) → InQ K H' x (divQ p q).1 → InQ K H' y (divQ p q).2 → Q (.ref t) H'
theorem len_divided_by {K : PySem.W.Frag} {vs : List V} {H : Hp} {Q : VK} {E : XK} (h : sp_divided_by K vs H Q E) : vs.length = ["ground", "one", "other"].length := by
  obtain ⟨_, _, _, _, rfl, _⟩ := h
  rfl
def t_divided_by_f1_b (K : PySem.W.Frag) : TS := (tAugS (tVar 5) (tOp rAdd (tVar 13) (tVar 14)) (tOp rMulU (tVar 8) (tVar 11)) (rGetN K) (ipI fun i j => i - j) rSetL)
def t_divided_by_w2_c (K : PySem.W.Frag) : TT := (tTest (tOp rGtI (tCB (rLenU K) (tCons (tVar 5) tNil)) (tCB (rLenU K) (tCons (tVar 3) tNil))))
def t_divided_by_w2_b (K : PySem.W.Frag) : TS := (tSeq (tAsg (tBM0 K "list" rPop (tVar 5)) (gName 8))
  (tSeq (tAsg (tCB rGcd (tCons (tVar 8) (tCons (tVar 4) tNil))) (gName 9))
  (tSeq (tAsg (tTup (tCons (tOp rDivU (tVar 4) (tVar 9)) (tCons (tOp rDivU (tVar 8) (tVar 9)) tNil))) (gTup K 2 (gCons (gName 10) (gCons (gName 8) gNil))))
  (tSeq (tIfS (tTest (tOp rNe (tVar 10) (tC (.int 1)))) (tSeq (tPar 5 6 (tCons (tLc (iList K (tVar 5)) (gName 11) tYes (tOp rMulU (tVar 10) (tVar 11)) [11]) (tCons (tLc (iList K (tVar 6)) (gName 12) tYes (tOp rMulU (tVar 10) (tVar 12)) [12]) tNil)))
  (tAsg (tOp rMulU (tVar 7) (tVar 10)) (gName 7))) tNext)
  (tSeq (tDrop (tBM K "list" rAppend (tVar 6) (tCons (tVar 8) tNil)))
  (tSeq (tAsg (tOp rSub (tCB (rLenU K) (tCons (tVar 5) tNil)) (tCB (rLenU K) (tCons (tVar 3) tNil))) (gName 13))
  (tFor (iEnT K (tCons (tVar 3) tNil)) (gTup K 2 (gCons (gName 14) (gCons (gName 11) gNil))) (t_divided_by_f1_b K))))))))
def t_divided_by (K : PySem.W.Frag) : TS := (tSeq (tIfS (tTest (tOp rNe (tVar 0) (tC (.int 0)))) (tRet (tCall (sp_divided_modulo K) [] E0 (tCons (tVar 0) (tCons (tVar 1) (tCons (tVar 2) tNil))))) tNext)
  (tSeq (tPar 3 4 (tCons (tSl (rSlT K) (tOp (rIxA K) (tVar 2) (tC (.int 0))) tNoPart (tPart (tUn rNeg (tC (.int 1))))) (tCons (tOp (rIxA K) (tOp (rIxA K) (tVar 2) (tC (.int 0))) (tUn rNeg (tC (.int 1)))) tNil)))
  (tSeq (tPar 5 6 (tCons (tCB (rListOf K) (tCons (tOp (rIxA K) (tVar 1) (tC (.int 0))) tNil)) (tCons (tLst tNil) tNil)))
  (tSeq (tAsg (tOp (rIxA K) (tVar 1) (tC (.int 1))) (gName 7))
  (tSeq (tWhile (t_divided_by_w2_c K) (t_divided_by_w2_b K))
  (tRet (tTup (tCons (tCall (sp_settled K) [] E0 (tCons (tC (.int 0)) (tCons (tLc (iList K (tRevL K (tVar 6))) (gName 12) tYes (tOp rMulU (tVar 12) (tOp (rIxA K) (tVar 2) (tC (.int 1)))) [12]) (tCons (tVar 7) tNil)))) (tCons (tCall (sp_settled K) [] E0 (tCons (tC (.int 0)) (tCons (tVar 5) (tCons (tVar 7) tNil)))) tNil)))))))))
theorem divB_now {low : List Int} {lead : Int} {k : Nat} {r p : List Int} {s : Int} (h : divB low lead k r p s = true) : (∀ n ∈ r, Sz 1500 n) ∧ (∀ n ∈ p, Sz 1500 n) ∧ Sz 1500 s ∧ s ≠ 0 := by
  have key : (r.all smB && p.all smB && smB s && decide (s ≠ 0)) = true := by
    cases k with
    | zero => exact h
    | succ k => rw [divB, Bool.and_eq_true] at h; exact h.1
  simp only [Bool.and_eq_true, decide_eq_true_eq] at key
  exact ⟨fun n hn => smB_sz (List.all_eq_true.mp key.1.1.1 n hn), fun n hn => smB_sz (List.all_eq_true.mp key.1.1.2 n hn), smB_sz key.1.2, key.2⟩
theorem div_le_abs {x c : Int} (hc : 0 < c) (h : c ∣ x) : (x / c).natAbs ≤ x.natAbs := by
  obtain ⟨y, rfl⟩ := h
  rw [Int.mul_ediv_cancel_left _ (by omega), Int.natAbs_mul]
  exact Nat.le_mul_of_pos_left _ (by omega)
theorem mulQ_len (u : Int) (r : List Int) : (mulQ u r).length = r.length := by
  unfold mulQ; split <;> simp
theorem pure_divided_by (K : PySem.W.Frag) (vs : List V) (H : Hp) (Q : VK) (E : XK) (h : sp_divided_by K vs H Q E) : t_divided_by K { nx := fun _ H' => Q .non H', rt := Q } (start ["ground", "one", "other", "lower", "lead", "rest", "parts", "scale", "head", "common", "up", "number", "part", "start", "j"] vs) H := by
  obtain ⟨v, w, ⟨ns, b⟩, ⟨ms, c⟩, rfl, hv, hw, hok, hq⟩ := h
  simp only [divOk, Bool.and_eq_true, decide_eq_true_eq] at hok
  obtain ⟨⟨⟨okp, okq⟩, mne⟩, hB⟩ := hok
  have hlen : ns.length < 30 := ipOk_len okp
  have hlen2 : ms.length < 30 := ipOk_len okq
  have sms := ipOk_all okq
  obtain ⟨sc, c0⟩ := ipOk_bot okq
  obtain ⟨low, lead, h1, lead0, h3, h4⟩ := (ipOk_last okq).resolve_left fun h => mne h.1
  have h1 : ms = low ++ [lead] := h1
  subst h1
  have h3 : (low ++ [lead]).getLastD 0 = lead := h3
  have h4 : (low ++ [lead]).dropLast = low := h4
  have slead : Sz 1500 lead := sms lead (by simp)
  have slow : ∀ n ∈ low, Sz 1500 n := fun n hn => sms n (by simp [hn])
  have hB : divB low lead ns.length ns [] b = true := by
    have := hB
    simp only [h3, h4] at this
    exact this
  have eD : divQ (ns, b) (low ++ [lead], c) = (stQ ((divGo low lead ns.length ns [] b).2.1.reverse.map (· * c)) (divGo low lead ns.length ns [] b).2.2, stQ (divGo low lead ns.length ns [] b).1 (divGo low lead ns.length ns [] b).2.2) := by
    simp only [divQ, h3, h4]
  rw [List.length_append, List.length_singleton] at hlen2
  unfold t_divided_by
  walk_at "z"
  obtain ⟨a1, _, rfl, h1, A1, rfl, hA1⟩ := id hv
  obtain ⟨a2, _, rfl, h2, A2, rfl, hA2⟩ := id hw
  refine ixT h2 (v := .ref A2) rfl ?_
  have em : (low ++ [lead]).map V.int = low.map V.int ++ [V.int lead] := by simp
  have hA2 : SqT K H A2 (low.map V.int ++ [V.int lead]) := by rw [← em]; exact hA2
  refine ⟨A2, _, rfl, hA2, ?_, fun lo hlo => ?_⟩
  · rintro ⟨_, e⟩
    rw [sIx_m1, List.length_append, List.length_singleton] at e
    omega
  rw [cut_last]
  have f1 := same_upd (o := .tup (low.map V.int)) hlo
  have e1 : upd H lo (.tup (low.map V.int)) lo = some (.tup (low.map V.int)) := upd_same
  generalize upd H lo (.tup (low.map V.int)) = G1 at *
  refine ixT (sqT_up h2 f1) (v := .ref A2) rfl ?_
  refine ixT (sqT_up hA2 f1) (v := .int lead) (L2.atI_last _ _) ?_
  walk_at "z"
  refine ixT (sqT_up h1 f1) (v := .ref A1) rfl ?_
  refine ⟨A1, _, rfl, .inr (sqT_up hA1 f1), fun R hR => ⟨by decide, fun Pp hP => ?_⟩⟩
  have f2 := same_upd (o := .lst (ns.map V.int)) hR
  have e2 : upd G1 R (.lst (ns.map V.int)) R = some (.lst (ns.map V.int)) := upd_same
  have nRP : R ≠ Pp := fun e => by rw [← e, e2] at hP; cases hP
  generalize upd G1 R (.lst (ns.map V.int)) = G2 at *
  have f3 := same_upd (o := .lst []) hP
  have e3 : upd G2 Pp (.lst []) Pp = some (.lst []) := upd_same
  have hP1 : G1 Pp = none := none_back f2 hP
  generalize upd G2 Pp (.lst []) = G3 at *
  walk_at "z"
  have fA := (f1.trans f2).trans f3
  refine ixT (sqT_up h1 fA) (v := .int b) rfl ?_
  walk_at "z"
  refine while_of (fun μ σ H' => ∃ R Pp rest parts s o8 o9 o10 o11 o12 o13 o14, σ = [some (.int 0), some (.ref a1), some (.ref a2), some (.ref lo), some (.int lead), some (.ref R), some (.ref Pp), some (.int s), o8, o9, o10, o11, o12, o13, o14] ∧ G1 R = none ∧ G1 Pp = none ∧ R ≠ Pp ∧ Same G1 H' ∧ H' R = some (.lst (rest.map V.int)) ∧ H' Pp = some (.lst (parts.map V.int)) ∧ μ = rest.length ∧
      rest.length + parts.length = ns.length ∧ divB low lead rest.length rest parts s = true ∧ divGo low lead rest.length rest parts s = divGo low lead ns.length ns [] b) ns.length
    ⟨R, Pp, ns, [], b, _, _, _, _, _, _, _, rfl, hR, hP1, nRP, f2.trans f3, f3 _ _ e2, e3, rfl, by simp, hB, rfl⟩ ?_
  clear e2 e3 f2 f3 hP nRP hP1 hR
  rintro μ σ H' ⟨R, Pp, rest, parts, s, o8, o9, o10, o11, o12, o13, o14, rfl, hR, hP, nRP, sm, hR', hP', hμ, hl, hBn, hfin⟩ N hN hN2
  unfold t_divided_by_w2_c t_divided_by_w2_b
  walk_at "z"
  have hlo' := sm _ _ e1
  refine lenL (sqL_of hR') ?_
  refine lenT (sqT_of hlo') ?_
  walk_at "z"
  rw [List.length_map, List.length_map]
  obtain ⟨zr, zp, zs, s0⟩ := divB_now hBn
  by_cases hc : low.length < rest.length
  · rw [if_pos (by omega)]
    refine ⟨N, hN2, ?_⟩
    obtain ⟨fr, la, rfl⟩ : ∃ fr la, rest = fr ++ [la] := ⟨rest.dropLast, rest.getLast (by intro e; rw [e] at hc; simp at hc), (List.dropLast_concat_getLast _).symm⟩
    rw [List.length_append, List.length_singleton] at hl hc hμ
    have eg : (fr ++ [la]).getLastD 0 = la := by simp
    have ed : (fr ++ [la]).dropLast = fr := by simp
    have zla : Sz 1500 la := zr la (by simp)
    have zfr : ∀ n ∈ fr, Sz 1500 n := fun n hn => zr n (by simp [hn])
    have eu : upQ lead (fr ++ [la]) = lead / gI2 la lead := by unfold upQ; rw [eg]
    have eh : hdQ lead (fr ++ [la]) = la / gI2 la lead := by unfold hdQ; rw [eg]
    have gp : 0 < gI2 la lead := by
      unfold gI2
      have : 0 < Nat.gcd la.natAbs lead.natAbs := Nat.gcd_pos_of_pos_right _ (by omega)
      omega
    have gl : (gI2 la lead).natAbs ≤ lead.natAbs := Nat.le_of_dvd (by omega) (Int.natAbs_dvd_natAbs.mpr (gcd_dvdR la lead))
    have cg : CDivW lead (gI2 la lead) := wide_div (b := 1500) gp (by have : lead.natAbs < 2 ^ 1500 := slead; omega) (by decide) (by decide)
    have cg2 : CDivW la (gI2 la lead) := wide_div (b := 1500) gp (by have : lead.natAbs < 2 ^ 1500 := slead; omega) (by decide) (by decide)
    have zu : Sz 1500 (lead / gI2 la lead) := Nat.lt_of_le_of_lt (div_le_abs gp (gcd_dvdR la lead)) slead
    have zh : Sz 1500 (la / gI2 la lead) := Nat.lt_of_le_of_lt (div_le_abs gp (gcd_dvdL la lead)) zla
    rw [List.length_append, List.length_singleton, divGo, if_neg (by simp; omega)] at hfin
    rw [List.length_append, List.length_singleton, divB, Bool.and_eq_true, if_neg (by simp; omega)] at hBn
    have hBn := hBn.2
    unfold restQ partQ scalQ at hfin hBn
    rw [eu, eh, ed] at hfin hBn
    generalize hup : lead / gI2 la lead = up at *
    generalize hhd : la / gI2 la lead = hd at *
    -- the loop that takes off
    have loop : ∀ (R2 P2 : Addr) (G6 : Hp) (r1 p2 : List Int) (s2 : Int) (o9 o11 o12 o14 : Option V) (D : Ends), D.nx = N → G1 R2 = none → G1 P2 = none → R2 ≠ P2 → Same G1 G6 → G6 R2 = some (.lst (r1.map V.int)) → G6 P2 = some (.lst (p2.map V.int)) → r1.length = fr.length → p2.length = parts.length + 1 →
        divB low lead fr.length (subQ hd r1 (fr.length - low.length) low) p2 s2 = true → divGo low lead fr.length (subQ hd r1 (fr.length - low.length) low) p2 s2 = divGo low lead ns.length ns [] b →
        ForW (IteT K lo) G6 (gTup K 2 (gCons (gName 14) (gCons (gName 11) gNil))) (t_divided_by_f1_b K) D [some (.int 0), some (.ref a1), some (.ref a2), some (.ref lo), some (.int lead), some (.ref R2), some (.ref P2), some (.int s2), some (.int hd), o9, some (.int up), o11, o12, some (.int ((fr.length - low.length : Nat) : Int)), o14] := by
      intro R2 P2 G6 r1 p2 s2 o9 o11 o12 o14 D hD q1 q2 q3 q4 q5 q6 q7 q8 q9 q10
      refine for_enT (xs := low.map V.int) (fun j σ H' => ∃ o11 o14, σ = [some (.int 0), some (.ref a1), some (.ref a2), some (.ref lo), some (.int lead), some (.ref R2), some (.ref P2), some (.int s2), some (.int hd), o9, some (.int up), o11, o12, some (.int ((fr.length - low.length : Nat) : Int)), o14] ∧ Same G1 H' ∧ H' P2 = some (.lst (p2.map V.int)) ∧
          H' R2 = some (.lst ((subQ hd r1 (fr.length - low.length) (low.take j)).map V.int)))
        ⟨_, _, rfl, q4, q6, by rw [List.take_zero]; exact q5⟩ (fun i σ H' h => by obtain ⟨_, _, _, s, _⟩ := h; exact sqT_of (s _ _ e1)) (fun j y T σ H2 hy h hT N2 hN2' => ?_) (fun σ H2 h => ?_)
      · obtain ⟨o11, o14, rfl, s7, hP7, hR7⟩ := h
        obtain ⟨m, hm, rfl⟩ := get_int hy
        have hj := lt_of_get hm
        walk_at "z"
        refine ⟨_, sqT_of upd_same, rfl, ?_⟩
        walk_at "z"
        have fT := same_upd (o := .tup [V.int (j : Nat), V.int m]) hT
        replace s7 := s7.trans fT
        replace hP7 := fT _ _ hP7
        replace hR7 := fT _ _ hR7
        generalize upd H2 T (.tup [V.int (j : Nat), V.int m]) = H3 at *
        have hcl : (subQ hd r1 (fr.length - low.length) (low.take j)).length = fr.length := by rw [subQ_len, q7]
        have happ : subQ hd r1 (fr.length - low.length) (low.take (j + 1)) = (subQ hd r1 (fr.length - low.length) (low.take j)).set (fr.length - low.length + j) ((subQ hd r1 (fr.length - low.length) (low.take j)).getD (fr.length - low.length + j) 0 - hd * m) := by
          rw [take_succ_of hm, subQ_app, List.length_take, Nat.min_eq_left (by omega)]
        unfold t_divided_by_f1_b
        walk_at "z"
        refine ⟨R2, _, fr.length - low.length + j, _, rfl, congrArg V.int (by omega), sqL_of hR7, int_get (by omega), ?_⟩
        walk_at "z"
        refine ⟨mulW (a := 1500) (b := 1500) zh (slow m (List.mem_of_getElem? hm)) (by decide) (by decide) (by decide), ?_⟩
        refine setL hR7 (ixn2 (by rw [List.length_map]; omega)) ?_
        refine hN2' _ _ ⟨_, _, rfl, same_mutD s7 q1, by rw [upd_ne q3.symm]; exact hP7, ?_⟩
        rw [upd_same, happ, List.map_set]
      · obtain ⟨o11, o14, rfl, s7, hP7, hR7⟩ := h
        rw [List.length_map, List.take_length] at hR7
        rw [hD]
        refine hN fr.length _ _ (by omega) ⟨R2, P2, _, p2, s2, _, _, _, _, _, _, _, rfl, q1, q2, q3, s7, hR7, hP7, by rw [subQ_len, q7], by rw [subQ_len, q7, q8]; omega, ?_, ?_⟩
        · rw [subQ_len, q7]; exact q9
        · rw [subQ_len, q7]; exact q10
    walk_at "z"
    refine ⟨tyL hR', R, _, .int la, rfl, rfl, hR', by simp, ?_⟩
    rw [List.map_append, List.map_cons, List.map_nil, List.dropLast_concat]
    have s5 : Same G1 (upd H' R (.lst (fr.map V.int))) := same_mutD sm hR
    have eR5 : upd H' R (.lst (fr.map V.int)) R = some (.lst (fr.map V.int)) := upd_same
    have eP5 : upd H' R (.lst (fr.map V.int)) Pp = some (.lst (parts.map V.int)) := by rw [upd_ne nRP.symm]; exact hP'
    generalize upd H' R (.lst (fr.map V.int)) = G5 at *
    walk_at "z"
    refine ⟨cg, cg2, by decide, fun T hT => ?_⟩
    rw [show lead / ((Nat.gcd la.natAbs lead.natAbs : Nat) : Int) = up from hup, show la / ((Nat.gcd la.natAbs lead.natAbs : Nat) : Int) = hd from hhd]
    have fT := same_upd (o := .tup [V.int up, V.int hd]) hT
    have eT : upd G5 T (.tup [V.int up, V.int hd]) T = some (.tup [V.int up, V.int hd]) := upd_same
    replace s5 := s5.trans fT
    replace eR5 := fT _ _ eR5
    replace eP5 := fT _ _ eP5
    generalize upd G5 T (.tup [V.int up, V.int hd]) = G6 at *
    refine ⟨_, sqT_of eT, rfl, ?_⟩
    walk_at "z"
    by_cases h0 : up = 1
    · rw [if_neg (by simpa using h0)]
      unfold mulQ at hfin hBn
      rw [if_pos h0, if_pos h0, if_pos h0] at hfin hBn
      refine ⟨tyL eP5, Pp, _, .int hd, rfl, rfl, eP5, ?_, ?_⟩
      · rw [List.length_map, sizeLine_eq]; omega
      have s6 : Same G1 (upd G6 Pp (.lst (parts.map V.int ++ [.int hd]))) := same_mutD s5 hP
      have eR6 : upd G6 Pp (.lst (parts.map V.int ++ [.int hd])) R = some (.lst (fr.map V.int)) := by rw [upd_ne nRP]; exact eR5
      have eP6 : upd G6 Pp (.lst (parts.map V.int ++ [.int hd])) Pp = some (.lst ((parts ++ [hd]).map V.int)) := by rw [upd_same]; simp
      generalize upd G6 Pp (.lst (parts.map V.int ++ [.int hd])) = G7 at *
      walk_at "z"
      refine lenL (sqL_of eR6) ?_
      refine lenT (sqT_of (s6 _ _ e1)) ?_
      walk_at "z"
      rw [List.length_map, List.length_map, show (fr.length : Int) - (low.length : Int) = ((fr.length - low.length : Nat) : Int) by omega]
      exact ⟨lo, _, rfl, sqT_of (s6 _ _ e1), loop R Pp G7 fr _ s _ _ _ _ _ rfl hR hP nRP s6 eR6 eP6 rfl (by simp) hBn hfin⟩
    · rw [if_pos (by simpa using h0)]
      unfold mulQ at hfin hBn
      rw [if_neg h0, if_neg h0, if_neg h0] at hfin hBn
      refine ⟨R, rfl, ⟨_, sqL_of eR5⟩, comp_LF (sqL_of eR5) (fun i => (fr[i]?).map fun z => V.int (up * z)) (by rw [List.length_map]; omega) (fun i x H2 hx s Qo hQo => ?_) (fun D1 H2 n1 t1 hD1 => ?_)⟩
      · obtain ⟨z, hz, rfl⟩ := get_int hx
        walk_at "z"
        refine ⟨mulW (a := 1500) (b := 1500) zu (zfr z (List.mem_of_getElem? hz)) (by decide) (by decide) (by decide), ?_⟩
        have := hQo H2 (Same.refl _)
        rw [hz] at this
        exact this
      rw [outL_get fr _ (by simp)] at hD1
      have hD1 : H2 D1 = some (.lst ((fr.map (up * ·)).map V.int)) := by rw [hD1, List.map_map]; rfl
      refine ⟨Pp, rfl, ⟨_, sqL_of (t1 _ _ eP5)⟩, comp_LF (sqL_of (t1 _ _ eP5)) (fun i => (parts[i]?).map fun z => V.int (up * z)) (by rw [List.length_map]; omega) (fun i x H3 hx s Qo hQo => ?_) (fun D2 H3 n2 t2 hD2 => ?_)⟩
      · obtain ⟨z, hz, rfl⟩ := get_int hx
        walk_at "z"
        refine ⟨mulW (a := 1500) (b := 1500) zu (zp z (List.mem_of_getElem? hz)) (by decide) (by decide) (by decide), ?_⟩
        have := hQo H3 (Same.refl _)
        rw [hz] at this
        exact this
      rw [outL_get parts _ (by simp)] at hD2
      have hD2 : H3 D2 = some (.lst ((parts.map (up * ·)).map V.int)) := by rw [hD2, List.map_map]; rfl
      have g1 : G1 D1 = none := none_back s5 n1
      have g2 : G1 D2 = none := none_back (s5.trans t1) n2
      have ne : D1 ≠ D2 := fun e => by rw [e, n2] at hD1; cases hD1
      have hD1 := t2 _ _ hD1
      have s6 := (s5.trans t1).trans t2
      walk_at "z"
      refine ⟨mulW (a := 1500) (b := 1500) zs zu (by decide) (by decide) (by decide), ?_⟩
      refine ⟨tyL hD2, D2, _, .int hd, rfl, rfl, hD2, ?_, ?_⟩
      · rw [List.length_map, List.length_map, sizeLine_eq]; omega
      have s7 : Same G1 (upd H3 D2 (.lst ((parts.map (up * ·)).map V.int ++ [.int hd]))) := same_mutD s6 g2
      have eR7 : upd H3 D2 (.lst ((parts.map (up * ·)).map V.int ++ [.int hd])) D1 = some (.lst ((fr.map (up * ·)).map V.int)) := by rw [upd_ne ne]; exact hD1
      have eP7 : upd H3 D2 (.lst ((parts.map (up * ·)).map V.int ++ [.int hd])) D2 = some (.lst ((parts.map (up * ·) ++ [hd]).map V.int)) := by rw [upd_same]; simp
      generalize upd H3 D2 (.lst ((parts.map (up * ·)).map V.int ++ [.int hd])) = G7 at *
      walk_at "z"
      refine lenL (sqL_of eR7) ?_
      refine lenT (sqT_of (s7 _ _ e1)) ?_
      walk_at "z"
      rw [List.length_map, List.length_map, List.length_map, show (fr.length : Int) - (low.length : Int) = ((fr.length - low.length : Nat) : Int) by omega]
      exact ⟨lo, _, rfl, sqT_of (s7 _ _ e1), loop D1 D2 G7 (fr.map (up * ·)) _ (s * up) _ _ _ _ _ rfl g1 g2 ne s7 eR7 eP7 (by simp) (by simp) (by simpa using hBn) (by simpa using hfin)⟩
  · rw [if_neg (by omega)]
    have hd : divGo low lead rest.length rest parts s = (rest, parts, s) := by
      cases e : rest.length with
      | zero => rfl
      | succ k => rw [divGo, if_pos (by omega)]
    rw [hd] at hfin
    refine ⟨Pp, _, rfl, sqL_of hP', fun q hq1 => ?_⟩
    have g1 := same_upd (o := .lst (parts.map V.int).reverse) hq1
    have k1 : upd H' q (.lst (parts.map V.int).reverse) q = some (.lst (parts.reverse.map V.int)) := by rw [upd_same, List.map_reverse]
    generalize upd H' q (.lst (parts.map V.int).reverse) = J1 at *
    refine ⟨q, rfl, ⟨_, sqL_of k1⟩, comp_LF (sqL_of k1) (fun i => (parts.reverse[i]?).map fun z => V.int (z * c)) (by rw [List.length_map, List.length_reverse]; omega) (fun i x H2 hx t Qo hQo => ?_) (fun D1 J2 n1 t1 hD1 => ?_)⟩
    · obtain ⟨z, hz, rfl⟩ := get_int hx
      walk_at "z"
      refine ixT (sqT_up h2 (((f1.trans sm).trans g1).trans t)) (v := .int c) rfl ?_
      walk_at "z"
      refine ⟨mulW (a := 1500) (b := 1500) (zp z (List.mem_reverse.mp (List.mem_of_getElem? hz))) sc (by decide) (by decide) (by decide), ?_⟩
      have := hQo H2 (Same.refl _)
      rw [hz] at this
      exact this
    rw [outL_get parts.reverse _ (by simp)] at hD1
    have hD1 : J2 D1 = some (.lst ((parts.reverse.map (· * c)).map V.int)) := by rw [hD1, List.map_map]; rfl
    refine ⟨0, D1, parts.reverse.map (· * c), s, true, rfl, sqL_of hD1, by rw [List.length_map, List.length_reverse]; omega, by decide, fun h => absurd rfl h, fun _ => ⟨s0, szU zs (by decide)⟩, fun x ks k J3 t3 hx hS => ?_⟩
    have ex := stl_q hS s0
    have g13 := (g1.trans t1).trans t3
    refine ⟨0, R, rest, s, true, rfl, sqL_of (g13 _ _ hR'), by omega, by decide, fun h => absurd rfl h, fun _ => ⟨s0, szU zs (by decide)⟩, fun y ls l J4 t4 hy hS2 => ?_⟩
    have ey := stl_q hS2 s0
    refine ⟨by decide, fun p hp => ?_⟩
    have g6 := same_upd (o := .tup [x, y]) hp
    refine hq p x y _ (f1.trans (sm.trans ((g13.trans t4).trans g6))) upd_same ?_ ?_
    · rw [eD, ← hfin]
      unfold InQ
      rw [← ex]
      exact (hx.same t4).same g6
    · rw [eD, ← hfin]
      unfold InQ
      rw [← ey]
      exact hy.same g6
theorem ok_divided_by {P : Program} {w : World} {K : PySem.W.Frag} {mg : Str → Option Value} {base : Heap} (T : Tx K mg) : Okk P w K mg base 4 "divided_by" ["ground", "one", "other"] (sp_divided_by K) := by
  obtain ⟨fd_settled, F_settled, b_settled, g_settled, k_settled⟩ := ok_settled (P := P) (w := w) (base := base) T
  obtain ⟨fd_divided_modulo, F_divided_modulo, b_divided_modulo, g_divided_modulo, k_divided_modulo⟩ := ok_divided_modulo (P := P) (w := w) (base := base) T
  have hf_enumerate := T.n_enumerate
  have hf_len := T.n_len
  have hf_list := T.n_list
  have hb_gcd := T.b_gcd
  obtain ⟨fd, F⟩ := T.f_divided_by
  refine ⟨fd, F.ok sc_divided_by (fun vs H Q E h => len_divided_by h) (fun cdv A outer s H vs Q E hr h => ⟨t_divided_by K, PSs.nox ?_, pure_divided_by K vs H Q E h⟩), F.bindsN (fun _ _ _ _ _ _ us hl => match us, hl with | [_, _, _], _ => rfl), T.g_divided_by, F.kp⟩
  exact (pss_cons (ps_if (pt_cmpR op_ne (pv 0) pe_int (nomark _)) (pss_one (ps_ret (pe_call F_divided_modulo (hr.mono (by decide)) rfl g_divided_modulo k_divided_modulo b_divided_modulo .nil pass0 (pa_cons (pv 0) (pa_cons (pv 1) (pa_cons (pv 2) pa_nil)))))) pss_nil)
      (pss_cons (ps_par (i := 3) (j := 4) rfl sc_divided_by.nd rfl rfl (by decide) rfl rfl (pa_cons (pe_slice sl_tup (pe_ix ix_lt (pv 2) pe_int (fun _ _ => rfl)) po_none (po_some (pe_un un_neg pe_int))) (pa_cons (pe_ix ix_lt (pe_ix ix_lt (pv 2) pe_int (fun _ _ => rfl)) (pe_un un_neg pe_int) (fun _ _ => rfl)) pa_nil)) (by rfl))
      (pss_cons (ps_par (i := 5) (j := 6) rfl sc_divided_by.nd rfl rfl (by decide) rfl rfl (pa_cons (pe_callTy call_list_of (by rfl) hf_list (by decide +kernel) (pa_cons (pe_ix ix_lt (pv 1) pe_int (fun _ _ => rfl)) pa_nil)) (pa_cons (pe_lst pa_nil) pa_nil)) (by rfl))
      (pss_cons (ps_set (i := 7) sc_divided_by.nd rfl (by first | exact Or.inl rfl | exact Or.inr rfl) (pe_ix ix_lt (pv 1) pe_int (fun _ _ => rfl)))
      (pss_cons (ps_while PassesOwn.never (pt_cmpR op_gt (pe_callB call_len_seq (by rfl) hf_len (by decide +kernel) (pa_cons (pv 5) pa_nil)) (pe_callB call_len_seq (by rfl) hf_len (by decide +kernel) (pa_cons (pv 3) pa_nil)) (nomark _)) (pss_cons (ps_set (i := 8) sc_divided_by.nd rfl (by first | exact Or.inl rfl | exact Or.inr rfl) (pe_bm0 PySem.F.plainAttrs_list PySem.F.slot_list_pop PySem.F.type_list_pop mt_pop (pv 5)))
      (pss_cons (ps_set (i := 9) sc_divided_by.nd rfl (by first | exact Or.inl rfl | exact Or.inr rfl) (pe_callBfun cr_gcd rfl hb_gcd (pa_cons (pv 8) (pa_cons (pv 4) pa_nil))))
      (pss_cons (ps_asg (pe_tup (pa_cons (pe_op op_fdivW (pv 4) (pv 9)) (pa_cons (pe_op op_fdivW (pv 8) (pv 9)) pa_nil))) (pg_tup rfl (pgs_cons (pg_name (i := 10) sc_divided_by.nd rfl (by first | exact Or.inl rfl | exact Or.inr rfl)) (pgs_cons (pg_name (i := 8) sc_divided_by.nd rfl (by first | exact Or.inl rfl | exact Or.inr rfl)) pgs_nil))))
      (pss_cons (ps_if (pt_cmpR op_ne (pv 10) pe_int (nomark _)) (pss_cons (ps_par (i := 5) (j := 6) rfl sc_divided_by.nd rfl rfl (by decide) rfl rfl (pa_cons (pe_lc (own := [("number", 11)]) (g := (gName 11)) (tt := tYes) rfl sc_divided_by.nd (pi_list (pv 5)) (blkOk_by (own := [("number", 11)]) (N := ["ground", "one", "other", "lower", "lead", "rest", "parts", "scale", "head", "common", "up", "number", "part", "start", "j"]) (sc := defScope s_divided_by) (by decide +kernel)) (fun _ _ _ _ _ => (pg_name (i := 11) sc_divided_by.nd rfl (by first | exact Or.inl rfl | exact Or.inr rfl))) (fun _ _ _ _ _ => pts_nil) (fun _ _ _ _ _ => (pe_op op_mulU (pv 10) (pv 11)))) (pa_cons (pe_lc (own := [("part", 12)]) (g := (gName 12)) (tt := tYes) rfl sc_divided_by.nd (pi_list (pv 6)) (blkOk_by (own := [("part", 12)]) (N := ["ground", "one", "other", "lower", "lead", "rest", "parts", "scale", "head", "common", "up", "number", "part", "start", "j"]) (sc := defScope s_divided_by) (by decide +kernel)) (fun _ _ _ _ _ => (pg_name (i := 12) sc_divided_by.nd rfl (by first | exact Or.inl rfl | exact Or.inr rfl))) (fun _ _ _ _ _ => pts_nil) (fun _ _ _ _ _ => (pe_op op_mulU (pv 10) (pv 12)))) pa_nil)) (by rfl))
      (pss_one (ps_set (i := 7) sc_divided_by.nd rfl (by first | exact Or.inl rfl | exact Or.inr rfl) (pe_op op_mulU (pv 7) (pv 10))))) pss_nil)
      (pss_cons (ps_expr (pe_bm PySem.F.plainAttrs_list PySem.F.slot_list_append PySem.F.type_list_append mt_append (pv 6) (pa_cons (pv 8) pa_nil)))
      (pss_cons (ps_set (i := 13) sc_divided_by.nd rfl (by first | exact Or.inl rfl | exact Or.inr rfl) (pe_op op_sub (pe_callB call_len_seq (by rfl) hf_len (by decide +kernel) (pa_cons (pv 5) pa_nil)) (pe_callB call_len_seq (by rfl) hf_len (by decide +kernel) (pa_cons (pv 3) pa_nil))))
      (pss_one (ps_for PassesOwn.never rfl (pi_enT (by rfl) hf_enumerate (pa_cons (pv 3) pa_nil)) (pg_tup rfl (pgs_cons (pg_name (i := 14) sc_divided_by.nd rfl (by first | exact Or.inl rfl | exact Or.inr rfl)) (pgs_cons (pg_name (i := 11) sc_divided_by.nd rfl (by first | exact Or.inl rfl | exact Or.inr rfl)) pgs_nil))) (pss_one (ps_augS (pv 5) (pe_op op_add (pv 13) (pv 14)) get_listN (pe_op op_mulU (pv 8) (pv 11)) ip_sub set_list)))))))))))
      (pss_one (ps_ret (pe_tup (pa_cons (pe_call F_settled (hr.mono (by decide)) rfl g_settled k_settled b_settled .nil pass0 (pa_cons pe_int (pa_cons (pe_lc (own := [("part", 12)]) (g := (gName 12)) (tt := tYes) rfl sc_divided_by.nd (pi_list (pe_revL (pv 6))) (blkOk_by (own := [("part", 12)]) (N := ["ground", "one", "other", "lower", "lead", "rest", "parts", "scale", "head", "common", "up", "number", "part", "start", "j"]) (sc := defScope s_divided_by) (by decide +kernel)) (fun _ _ _ _ _ => (pg_name (i := 12) sc_divided_by.nd rfl (by first | exact Or.inl rfl | exact Or.inr rfl))) (fun _ _ _ _ _ => pts_nil) (fun _ _ _ _ _ => (pe_op op_mulU (pv 12) (pe_ix ix_lt (pv 2) pe_int (fun _ _ => rfl))))) (pa_cons (pv 7) pa_nil)))) (pa_cons (pe_call F_settled (hr.mono (by decide)) rfl g_settled k_settled b_settled .nil pass0 (pa_cons pe_int (pa_cons (pv 5) (pa_cons (pv 7) pa_nil)))) pa_nil))))))))))
/-! ### monic -/
theorem sc_monic : FnScope ["ground", "inner"] ["ground", "inner"] (defScope s_monic) := ⟨rfl, rfl, rfl, by decide +kernel, rfl, by decide +kernel, by decide +kernel⟩
def sp_monic (K : PySem.W.Frag) : Sp := fun vs H Q _ => ∃ (v : V) (p : Ip), vs = [.int 0, v] ∧ InQ K H v p ∧ ipOk p = true ∧ ∀ x H', Same H H' → InQ K H' x (monicQ p) → Q x H'
theorem len_monic {K : PySem.W.Frag} {vs : List V} {H : Hp} {Q : VK} {E : XK} (h : sp_monic K vs H Q E) : vs.length = ["ground", "inner"].length := by
  obtain ⟨_, _, rfl, _⟩ := h
  rfl
def t_monic (K : PySem.W.Frag) : TS := (tSeq (tIfS (tTest (tOp (rEqD K) (tVar 1) (tCt K (.tuple [.tuple [], .int (1)])))) (tRet (tVar 1)) tNext)
  (tRet (tCall (sp_settled K) [] E0 (tCons (tVar 0) (tCons (tOp (rIxA K) (tVar 1) (tC (.int 0))) (tCons (tOp (rIxA K) (tOp (rIxA K) (tVar 1) (tC (.int 0))) (tUn rNeg (tC (.int 1)))) tNil))))))
theorem pure_monic (K : PySem.W.Frag) (vs : List V) (H : Hp) (Q : VK) (E : XK) (h : sp_monic K vs H Q E) : t_monic K { nx := fun _ H' => Q .non H', rt := Q } (start ["ground", "inner"] vs) H := by
  obtain ⟨v, ⟨ns, b⟩, rfl, hv, hp, hq⟩ := h
  have hlen : ns.length < 30 := ipOk_len hp
  have hall := ipOk_all hp
  unfold t_monic
  walk_at "z"
  intro x hx
  refine in_eq hv (InP.of (ns := []) (hx H)) ⟨_, rfl, ?_⟩
  rcases ipOk_last hp with ⟨h1, h2⟩ | ⟨low, lead, h1, h2, h3, h4⟩
  · rw [if_pos (decide_eq_true ⟨h1, h2⟩)]
    refine hq v H (Same.refl _) ?_
    unfold monicQ
    rw [if_pos h1]
    exact hv
  · have h1 : ns = low ++ [lead] := h1
    subst h1
    rw [if_neg (by simp)]
    obtain ⟨a1, _, rfl, h1', A1, rfl, hA1⟩ := id hv
    refine ixT h1' (v := .ref A1) rfl ?_
    refine ixT h1' (v := .ref A1) rfl ?_
    have em : (low ++ [lead]).map V.int = low.map V.int ++ [V.int lead] := by simp
    refine ixT hA1 (v := .int lead) (by show atI ((low ++ [lead]).map V.int) _ = _; rw [em]; exact L2.atI_last _ _) ?_
    refine ⟨0, A1, low ++ [lead], lead, false, rfl, hA1, Nat.lt_trans hlen (by decide), by decide, fun h => absurd rfl h, fun _ => ⟨h2, szU (hall lead (by simp)) (by decide)⟩, fun x ks k H4 s4 hx hS => ?_⟩
    refine hq x H4 s4 ?_
    have e := stl_q hS h2
    unfold InQ monicQ
    rw [if_neg (by simp), h3, ← e]
    exact hx
theorem ok_monic {P : Program} {w : World} {K : PySem.W.Frag} {mg : Str → Option Value} {base : Heap} (T : Tx K mg) : Okk P w K mg base 4 "monic" ["ground", "inner"] (sp_monic K) := by
  obtain ⟨fd_settled, F_settled, b_settled, g_settled, k_settled⟩ := ok_settled (P := P) (w := w) (base := base) T
  obtain ⟨hc_NOTHING, hk_NOTHING⟩ := T.c_NOTHING
  obtain ⟨fd, F⟩ := T.f_monic
  refine ⟨fd, F.ok sc_monic (fun vs H Q E h => len_monic h) (fun cdv A outer s H vs Q E hr h => ⟨t_monic K, PSs.nox ?_, pure_monic K vs H Q E h⟩), F.bindsN (fun _ _ _ _ _ _ us hl => match us, hl with | [_, _], _ => rfl), T.g_monic, F.kp⟩
  have hu64 := hu64_of hr
  exact (pss_cons (ps_if (pt_cmpR (op_eqD hu64) (pv 1) (pe_ct (pe_glob (v := .ref (He.ga K "NOTHING")) rfl hc_NOTHING rfl) hk_NOTHING) (nomark _)) (pss_one (ps_ret (pv 1))) pss_nil)
      (pss_one (ps_ret (pe_call F_settled (hr.mono (by decide)) rfl g_settled k_settled b_settled .nil pass0 (pa_cons (pv 0) (pa_cons (pe_ix ix_lt (pv 1) pe_int (fun _ _ => rfl)) (pa_cons (pe_ix ix_lt (pe_ix ix_lt (pv 1) pe_int (fun _ _ => rfl)) (pe_un un_neg pe_int) (fun _ _ => rfl)) pa_nil)))))))
/-! ### slope -/
theorem sc_slope : FnScope ["ground", "inner", "k", "number"] ["ground", "inner"] (defScope s_slope) := ⟨rfl, rfl, rfl, by decide +kernel, rfl, by decide +kernel, by decide +kernel⟩
def sp_slope (K : PySem.W.Frag) : Sp := fun vs H Q _ => ∃ (v : V) (p : Ip), vs = [.int 0, v] ∧ InQ K H v p ∧ ipOk p = true ∧ ∀ x H', Same H H' → InQ K H' x (slopeQ p) → Q x H'
theorem len_slope {K : PySem.W.Frag} {vs : List V} {H : Hp} {Q : VK} {E : XK} (h : sp_slope K vs H Q E) : vs.length = ["ground", "inner"].length := by
  obtain ⟨_, _, rfl, _⟩ := h
  rfl
def t_slope (K : PySem.W.Frag) : TS := (tRet (tCall (sp_settled K) [] E0 (tCons (tVar 0) (tCons (tSl (rSlL K) (tLc (iEnT K (tCons (tOp (rIxA K) (tVar 1) (tC (.int 0))) tNil)) (gTup K 2 (gCons (gName 2) (gCons (gName 3) gNil))) tYes (tOp rMulU (tVar 2) (tVar 3)) [2, 3]) (tPart (tC (.int 1))) tNoPart) (tCons (tOp (rIxA K) (tVar 1) (tC (.int 1))) tNil)))))
theorem pure_slope (K : PySem.W.Frag) (vs : List V) (H : Hp) (Q : VK) (E : XK) (h : sp_slope K vs H Q E) : t_slope K { nx := fun _ H' => Q .non H', rt := Q } (start ["ground", "inner", "k", "number"] vs) H := by
  obtain ⟨v, ⟨ns, b⟩, rfl, hv, hp, hq⟩ := h
  have hlen := ipOk_len hp
  have hall := ipOk_all hp
  obtain ⟨hb, b0⟩ := ipOk_bot hp
  unfold t_slope
  walk_at "z"
  obtain ⟨a1, _, rfl, h1, A1, rfl, hA1⟩ := id hv
  refine ixT h1 (v := .ref A1) rfl ?_
  refine ⟨A1, _, rfl, hA1, comp_ETq hA1 (outs := fun i => (((List.range ns.length).map fun (k : Nat) => (k : Int) * ns.getD k 0)[i]?).map V.int) (by rw [List.length_map]; exact Nat.lt_trans hlen (by decide)) (fun i x T H2 hx s hT Qo hQo => ?_) (fun D H2 _ s hD => ?_)⟩
  · obtain ⟨n, hn, rfl⟩ := get_int hx
    have hi := lt_of_get hn
    walk_at "z"
    refine ⟨_, sqT_of hT, rfl, ?_⟩
    walk_at "z"
    refine ⟨mulS (by have : ns.length < 30 := hlen; omega), ?_⟩
    have := hQo H2 (Same.refl _)
    have e : ((List.range ns.length).map fun (k : Nat) => (k : Int) * ns.getD k 0)[i]? = some ((i : Int) * n) := by
      rw [List.getElem?_map, List.getElem?_range hi]
      show some ((i : Int) * ns.getD i 0) = _
      rw [show ns.getD i 0 = n by rw [List.getD_eq_getElem?_getD, hn]; rfl]
    rw [e] at this
    exact this
  · rw [outL_get ((List.range ns.length).map fun (k : Nat) => (k : Int) * ns.getD k 0) V.int (by simp)] at hD
    walk_at "z"
    refine ⟨D, _, rfl, sqL_of hD, fun q h2 => ?_⟩
    have f2 := same_upd (o := .lst (cutV (((List.range ns.length).map fun (k : Nat) => (k : Int) * ns.getD k 0).map V.int) (some 1) none)) h2
    have e2 : upd H2 q (.lst (cutV (((List.range ns.length).map fun (k : Nat) => (k : Int) * ns.getD k 0).map V.int) (some 1) none)) q = some (.lst ((slopeL ns).map V.int)) := by
      rw [upd_same]
      have : ∀ xs : List V, cutV xs (some 1) none = xs.drop 1 := fun xs => by
        unfold cutV
        have a0 : HT.sIx xs.length 0 (some 1) = min 1 xs.length := HT.sIx_nat xs.length 0 1
        have a1 : HT.sIx xs.length xs.length none = xs.length := rfl
        rw [a0, a1]
        rcases Nat.eq_zero_or_pos xs.length with h | h
        · rw [List.eq_nil_of_length_eq_zero h]; rfl
        · rw [Nat.min_eq_left (by omega)]
          exact List.take_of_length_le (by simp)
      rw [this]
      unfold slopeL
      rw [List.map_drop]
    generalize upd H2 q (.lst (cutV (((List.range ns.length).map fun (k : Nat) => (k : Int) * ns.getD k 0).map V.int) (some 1) none)) = H3 at *
    refine ixT (sqT_up h1 (s.trans f2)) (v := .int b) rfl ?_
    refine ⟨0, q, slopeL ns, b, true, rfl, sqL_of e2, ?_, by decide, fun h => absurd rfl h, fun _ => ⟨b0, szU hb (by decide)⟩, fun x ks k H4 s4 hx hS => ?_⟩
    · unfold slopeL
      simp
      have : ns.length < 30 := hlen
      omega
    · have e := stl_q hS b0
      refine hq x H4 ((s.trans f2).trans s4) ?_
      unfold InQ slopeQ
      rw [← e]
      exact hx
theorem ok_slope {P : Program} {w : World} {K : PySem.W.Frag} {mg : Str → Option Value} {base : Heap} (T : Tx K mg) : Okk P w K mg base 4 "slope" ["ground", "inner"] (sp_slope K) := by
  obtain ⟨fd_settled, F_settled, b_settled, g_settled, k_settled⟩ := ok_settled (P := P) (w := w) (base := base) T
  have hf_enumerate := T.n_enumerate
  obtain ⟨fd, F⟩ := T.f_slope
  refine ⟨fd, F.ok sc_slope (fun vs H Q E h => len_slope h) (fun cdv A outer s H vs Q E hr h => ⟨t_slope K, PSs.nox ?_, pure_slope K vs H Q E h⟩), F.bindsN (fun _ _ _ _ _ _ us hl => match us, hl with | [_, _], _ => rfl), T.g_slope, F.kp⟩
  exact (pss_one (ps_ret (pe_call F_settled (hr.mono (by decide)) rfl g_settled k_settled b_settled .nil pass0 (pa_cons (pv 0) (pa_cons (pe_slice sl_list (pe_lc (own := [("k", 2), ("number", 3)]) (g := (gTup K 2 (gCons (gName 2) (gCons (gName 3) gNil)))) (tt := tYes) rfl sc_slope.nd (pi_enT (by rfl) hf_enumerate (pa_cons (pe_ix ix_lt (pv 1) pe_int (fun _ _ => rfl)) pa_nil)) (blkOk_by (own := [("k", 2), ("number", 3)]) (N := ["ground", "inner", "k", "number"]) (sc := defScope s_slope) (by decide +kernel)) (fun _ _ _ _ _ => (pg_tup rfl (pgs_cons (pg_name (i := 2) sc_slope.nd rfl (by first | exact Or.inl rfl | exact Or.inr rfl)) (pgs_cons (pg_name (i := 3) sc_slope.nd rfl (by first | exact Or.inl rfl | exact Or.inr rfl)) pgs_nil)))) (fun _ _ _ _ _ => pts_nil) (fun _ _ _ _ _ => (pe_op op_mulU (pv 2) (pv 3)))) (po_some pe_int) po_none) (pa_cons (pe_ix ix_lt (pv 1) pe_int (fun _ _ => rfl)) pa_nil))))))
/-! ### changes_between -/
theorem sc_changes_between : FnScope ["row", "low", "high"] ["row", "low", "high"] (defScope s_changes_between) := ⟨rfl, rfl, rfl, by decide +kernel, rfl, by decide +kernel, by decide +kernel⟩
def sp_changes_between (K : PySem.W.Frag) : Sp := fun vs H Q _ => ∃ (a : Addr) (v w : V) (xs : List V) (ps : List Ip) (e f : Option (Int × Int)), vs = [.ref a, v, w] ∧ H a = some (.lst xs) ∧ RowQ K H xs ps ∧ ps.length < 40 ∧ EndV H v e ∧ EndV H w f ∧ (ps.all fun p => signB p e) = true ∧ (ps.all fun p => signB p f) = true ∧ ∀ H', Same H H' → Q (.int (chQ ps e (-1) - chQ ps f 1)) H'
theorem len_changes_between {K : PySem.W.Frag} {vs : List V} {H : Hp} {Q : VK} {E : XK} (h : sp_changes_between K vs H Q E) : vs.length = ["row", "low", "high"].length := by
  obtain ⟨_, _, _, _, _, _, _, rfl, _⟩ := h
  rfl
def t_changes_between (K : PySem.W.Frag) : TS := (tRet (tOp rSub (tCall (sp_changes_at K) [] E0 (tCons (tVar 0) (tCons (tVar 1) (tCons (tUn rNeg (tC (.int 1))) tNil)))) (tCall (sp_changes_at K) [] E0 (tCons (tVar 0) (tCons (tVar 2) (tCons (tC (.int 1)) tNil))))))
theorem pure_changes_between (K : PySem.W.Frag) (vs : List V) (H : Hp) (Q : VK) (E : XK) (h : sp_changes_between K vs H Q E) : t_changes_between K { nx := fun _ H' => Q .non H', rt := Q } (start ["row", "low", "high"] vs) H := by
  obtain ⟨a, v, w, xs, ps, e, f, rfl, ha, hr, hl, he, hf, b1, b2, hq⟩ := h
  unfold t_changes_between
  walk_at "z"
  refine ⟨a, v, xs, ps, e, -1, rfl, ha, hr, hl, he, b1, .inr rfl, fun H1 s1 => ?_⟩
  refine ⟨a, w, xs, ps, f, 1, rfl, s1 _ _ ha, hr.same s1, hl, hf.same s1, b2, .inl rfl, fun H2 s2 => ?_⟩
  walk_at "z"
  exact hq _ (s1.trans s2)
theorem ok_changes_between {P : Program} {w : World} {K : PySem.W.Frag} {mg : Str → Option Value} {base : Heap} (T : Tx K mg) : Okk P w K mg base 4 "changes_between" ["row", "low", "high"] (sp_changes_between K) := by
  obtain ⟨fd_changes_at, F_changes_at, b_changes_at, g_changes_at, k_changes_at⟩ := ok_changes_at (P := P) (w := w) (base := base) T
  obtain ⟨fd, F⟩ := T.f_changes_between
  refine ⟨fd, F.ok sc_changes_between (fun vs H Q E h => len_changes_between h) (fun cdv A outer s H vs Q E hr h => ⟨t_changes_between K, PSs.nox ?_, pure_changes_between K vs H Q E h⟩), F.bindsN (fun _ _ _ _ _ _ us hl => match us, hl with | [_, _, _], _ => rfl), T.g_changes_between, F.kp⟩
  exact (pss_one (ps_ret (pe_op op_sub (pe_call F_changes_at (hr.mono (by decide)) rfl g_changes_at k_changes_at b_changes_at .nil pass0 (pa_cons (pv 0) (pa_cons (pv 1) (pa_cons (pe_un un_neg pe_int) pa_nil)))) (pe_call F_changes_at (hr.mono (by decide)) rfl g_changes_at k_changes_at b_changes_at .nil pass0 (pa_cons (pv 0) (pa_cons (pv 2) (pa_cons pe_int pa_nil)))))))
/-! ### check_end -/
theorem sc_check_end : FnScope ["end"] ["end"] (defScope s_check_end) := ⟨rfl, rfl, rfl, by decide +kernel, rfl, by decide +kernel, by decide +kernel⟩
def endOf : PyData → Option (Int × Int)
  | .tuple [.int a, .int b] => some (a, b)
  | _ => none
/-- an end that is none -/
def BadE (K : PySem.W.Frag) (E : XK) (H : Hp) (u : V) : Prop := ∃ (d : PyData) (no : List Addr), Pl H no d u ∧ d ≠ .none ∧ numB 0 (10 ^ 60) d = false ∧ RaiseF K E H "InvalidNumber" "given" u
def GoodE (H : Hp) (u : V) (d : PyData) : Prop := (∃ no, Pl H no d u) ∧ (d = .none ∨ numB 0 (10 ^ 60) d = true)
theorem RaiseF.same {K : PySem.W.Frag} {E : XK} {H H' : Hp} {v : V} {c f : String} (h : RaiseF K E H c f v) (s : Same H H') : RaiseF K E H' c f v := fun H2 dd s2 n => h H2 dd (s.trans s2) n
theorem Raise0.same {K : PySem.W.Frag} {E : XK} {H H' : Hp} {c : String} (h : Raise0 K E H c) (s : Same H H') : Raise0 K E H' c := fun H2 s2 => h H2 (s.trans s2)
theorem BadE.same {K : PySem.W.Frag} {E : XK} {H H' : Hp} {u : V} (h : BadE K E H u) (s : Same H H') : BadE K E H' u := by
  obtain ⟨d, no, p, n, b, r⟩ := h
  exact ⟨d, no, p.same s, n, b, r.same s⟩
theorem GoodE.same {H H' : Hp} {u : V} {d : PyData} (h : GoodE H u d) (s : Same H H') : GoodE H' u d := by
  obtain ⟨⟨no, p⟩, h⟩ := h
  exact ⟨⟨no, p.same s⟩, h⟩
theorem pl_non {H : Hp} {no : List Addr} {d : PyData} (p : Pl H no d .non) : d = .none := by
  cases d <;> first | rfl | (rw [Pl] at p; first | (cases p; done) | (obtain ⟨_, _, e, _⟩ := p; cases e) | (obtain ⟨_, _, e, _⟩ := p; cases e))
theorem num0_of {d : PyData} (h : numB 0 (10 ^ 60) d = true) : ∃ a b : Int, d = .tuple [.int a, .int b] ∧ (-(10 ^ 60) < a ∧ a < 10 ^ 60) ∧ (-(10 ^ 60) < b ∧ b < 10 ^ 60) ∧ 1 ≤ b ∧ Nat.gcd a.natAbs b.natAbs = 1 := by
  cases d with
  | int n =>
    unfold numB at h
    rw [decide_eq_true_eq] at h
    exact absurd rfl h.1
  | tuple ds =>
    unfold numB at h
    split at h
    · contradiction
    · rename_i x y e
      cases e
      rw [decide_eq_true_eq] at h
      exact ⟨x, y, rfl, h.2⟩
    · cases h
  | _ => simp [numB] at h
theorem GoodE.num {H : Hp} {u : V} {d : PyData} (h : GoodE H u d) : EndV H u (endOf d) ∧ ∀ a b, endOf d = some (a, b) → Sz 200 a ∧ Sz 200 b := by
  obtain ⟨⟨no, p⟩, h⟩ := h
  have big : ∀ x : Int, -(10 ^ 60) < x → x < 10 ^ 60 → Sz 200 x := fun x h1 h2 => by
    have : x.natAbs < 10 ^ 60 := by omega
    exact Nat.lt_trans this (by decide)
  rcases h with rfl | h
  · rw [Pl] at p
    exact ⟨p, fun a b h => (by cases h)⟩
  · obtain ⟨a, b, rfl, ha, hb, b1, hg⟩ := num0_of h
    obtain ⟨T, ys, rfl, hT, hA⟩ := pl_tup p
    match ys, hA with
    | [u, w], hA =>
      have e1 : Pl H no (.int a) u := hA.2 0 _ _ rfl rfl
      have e2 : Pl H no (.int b) w := hA.2 1 _ _ rfl rfl
      rw [Pl] at e1 e2
      subst e1; subst e2
      refine ⟨.inl ⟨rfl, ⟨T, rfl, hT⟩, b1, hg⟩, fun x y e => ?_⟩
      cases e
      exact ⟨big a ha.1 ha.2, big b hb.1 hb.2⟩
    | [], hA => exact absurd hA.1 (by simp)
    | [_], hA => exact absurd hA.1 (by simp)
    | _ :: _ :: _ :: _, hA => exact absurd hA.1 (by simp)
def sp_check_end (K : PySem.W.Frag) : Sp := fun vs H Q E => ∃ (u : V), vs = [u] ∧ (BadE K E H u ∨ ∃ d, GoodE H u d ∧ Q .non H)
theorem len_check_end {K : PySem.W.Frag} {vs : List V} {H : Hp} {Q : VK} {E : XK} (h : sp_check_end K vs H Q E) : vs.length = ["end"].length := by
  obtain ⟨_, rfl, _⟩ := h
  rfl
def t_check_end (K : PySem.W.Frag) (E : XK) : TS := (tIfS (tAnd (tB (tNotN (tVar 0))) (tNot (tB (tCall (sp_number_fits K) [] E0 (tCons (tC (.int 0)) (tCons (tVar 0) (tCons (tC (.int 1000000000000000000000000000000000000000000000000000000000000)) tNil))))))) (tRaise1 "given" (He.ga K "InvalidNumber") (fun cls d _ H => E cls d H) (tCons (tVar 0) tNil)) tNext)
theorem pure_check_end (K : PySem.W.Frag) (vs : List V) (H : Hp) (Q : VK) (E : XK) (h : sp_check_end K vs H Q E) : t_check_end K E { nx := fun _ H' => Q .non H', rt := Q } (start ["end"] vs) H := by
  obtain ⟨u, rfl, h⟩ := h
  unfold t_check_end
  walk_at "z"
  by_cases hu : u = .non
  · subst hu
    rw [if_neg (by simp)]
    rcases h with ⟨d, no, p, n, _⟩ | ⟨d, _, hq⟩
    · exact absurd (pl_non p) n
    · exact hq
  · rw [if_pos hu]
    rcases h with ⟨d, no, p, n, b, r⟩ | ⟨d, ⟨⟨no, p⟩, h⟩, hq⟩
    · obtain ⟨k2, kn⟩ := pl_num (g := 0) (l := 10 ^ 60) p
      refine ⟨0, u, _, rfl, k2, fun x hb => ?_⟩
      have e : x = false := by
        have := hb.trans kn
        rw [b] at this
        simpa using this
      subst e
      walk_at "z"
      exact ⟨_, rfl, fun dd hd => r H dd (Same.refl _) hd⟩
    · obtain ⟨k2, kn⟩ := pl_num (g := 0) (l := 10 ^ 60) p
      refine ⟨0, u, _, rfl, k2, fun x hb => ?_⟩
      have h : numB 0 (10 ^ 60) d = true := h.resolve_left fun e => hu (by subst e; rw [Pl] at p; exact p)
      have e : x = true := (hb.trans kn).mpr h
      subst e
      walk_at "z"
      exact hq
theorem ok_check_end {P : Program} {w : World} {K : PySem.W.Frag} {mg : Str → Option Value} {base : Heap} (T : Tx K mg) : OkkX P w K mg base 4 "check_end" ["end"] (sp_check_end K) := by
  obtain ⟨fd_number_fits, F_number_fits, b_number_fits, g_number_fits, k_number_fits⟩ := ok_number_fits (P := P) (w := w) (base := base) T
  obtain ⟨_, hc_SIXTY_DIGITS⟩ := T.c_SIXTY_DIGITS
  obtain ⟨fd, F⟩ := T.f_check_end
  refine ⟨fd, F.ok sc_check_end (fun vs H Q E h => len_check_end h) (fun cdv A outer s H vs Q E hr h => ⟨t_check_end K E, ?_, pure_check_end K vs H Q E h⟩), F.bindsN (fun _ _ _ _ _ _ us hl => match us, hl with | [_], _ => rfl), T.g_check_end, F.kp⟩
  exact (pss_one (ps_if (PW.pt (pw_and (pt_cmp (pc_notN (pv 0))) (pw_and1 (pt_not (pt_val (pe_call F_number_fits (hr.mono (by decide)) rfl g_number_fits k_number_fits b_number_fits .nil pass0 (pa_cons pe_int (pa_cons (pv 0) (pa_cons (pe_glob rfl hc_SIXTY_DIGITS ⟨_, rfl⟩) pa_nil))))))))) (pss_one (ps_raise1 PySem.F.excBase_IndexError PySem.F.store_IndexError PySem.ZExc.fnOk_given rfl T.x_InvalidNumber hr (takes_of rfl rfl rfl rfl) (pa_cons (pv 0) pa_nil) rfl (by decide))) pss_nil))
/-! ### check_stretch -/
theorem sc_check_stretch : FnScope ["low", "high"] ["low", "high"] (defScope s_check_stretch) := ⟨rfl, rfl, rfl, by decide +kernel, rfl, by decide +kernel, by decide +kernel⟩
def strB : Option (Int × Int) → Option (Int × Int) → Bool
  | some (a, b), some (c, d) => decide (a * d < c * b)
  | _, _ => true
def sp_check_stretch (K : PySem.W.Frag) : Sp := fun vs H Q E => ∃ (v w : V) (d e : PyData), vs = [v, w] ∧ GoodE H v d ∧ GoodE H w e ∧ ((strB (endOf d) (endOf e) = true ∧ ∀ H', Same H H' → Q .non H') ∨ (strB (endOf d) (endOf e) = false ∧ Raise0 K E H "InvalidOperation"))
theorem len_check_stretch {K : PySem.W.Frag} {vs : List V} {H : Hp} {Q : VK} {E : XK} (h : sp_check_stretch K vs H Q E) : vs.length = ["low", "high"].length := by
  obtain ⟨_, _, _, _, rfl, _⟩ := h
  rfl
def t_check_stretch (K : PySem.W.Frag) (E : XK) : TS := (tIfS (tNot (tB (tCall (sp_is_stretch K) [] E0 (tCons (tVar 0) (tCons (tVar 1) tNil))))) (tRaise0 (He.ga K "InvalidOperation") (fun cls d _ H => E cls d H)) tNext)
theorem pure_check_stretch (K : PySem.W.Frag) (vs : List V) (H : Hp) (Q : VK) (E : XK) (h : sp_check_stretch K vs H Q E) : t_check_stretch K E { nx := fun _ H' => Q .non H', rt := Q } (start ["low", "high"] vs) H := by
  obtain ⟨v, w, d, e, rfl, g1, g2, h⟩ := h
  unfold t_check_stretch
  walk_at "z"
  obtain ⟨n1, z1⟩ := g1.num
  obtain ⟨n2, z2⟩ := g2.num
  refine ⟨v, w, _, _, rfl, n1, n2, fun a b h => ⟨sz_mono (z1 a b h).1 (by decide), sz_mono (z1 a b h).2 (by decide)⟩, fun a b h => ⟨sz_mono (z2 a b h).1 (by decide), sz_mono (z2 a b h).2 (by decide)⟩, fun H1 s1 => ?_⟩
  have e1 : (match endOf d, endOf e with | some (a, b), some (c, d) => decide (a * d < c * b) | _, _ => true) = strB (endOf d) (endOf e) := by
    cases endOf d <;> cases endOf e <;> rfl
  rw [e1]
  walk_at "z"
  rcases h with ⟨h, hq⟩ | ⟨h, hr⟩
  · rw [h]
    walk_at "z"
    exact hq _ s1
  · rw [h]
    walk_at "z"
    exact hr _ s1
theorem ok_check_stretch {P : Program} {w : World} {K : PySem.W.Frag} {mg : Str → Option Value} {base : Heap} (T : Tx K mg) : OkkX P w K mg base 4 "check_stretch" ["low", "high"] (sp_check_stretch K) := by
  obtain ⟨fd_is_stretch, F_is_stretch, b_is_stretch, g_is_stretch, k_is_stretch⟩ := ok_is_stretch (P := P) (w := w) (base := base) T
  obtain ⟨fd, F⟩ := T.f_check_stretch
  refine ⟨fd, F.ok sc_check_stretch (fun vs H Q E h => len_check_stretch h) (fun cdv A outer s H vs Q E hr h => ⟨t_check_stretch K E, ?_, pure_check_stretch K vs H Q E h⟩), F.bindsN (fun _ _ _ _ _ _ us hl => match us, hl with | [_, _], _ => rfl), T.g_check_stretch, F.kp⟩
  exact (pss_one (ps_if (pt_not (pt_val (pe_call F_is_stretch (hr.mono (by decide)) rfl g_is_stretch k_is_stretch b_is_stretch .nil pass0 (pa_cons (pv 0) (pa_cons (pv 1) pa_nil))))) (pss_one (ps_raise0 rfl (takes_of rfl rfl rfl rfl) T.e_InvalidOperation.1 T.e_InvalidOperation.2 rfl (by decide))) pss_nil))
/-! ### turned_rest_of -/
theorem sc_turned_rest_of : FnScope ["rest", "numbers", "bottom", "common", "number"] ["rest"] (defScope s_turned_rest_of) := ⟨rfl, rfl, rfl, by decide +kernel, rfl, by decide +kernel, by decide +kernel⟩
def sp_turned_rest_of (K : PySem.W.Frag) : Sp := fun vs H Q _ => ∃ (v : V) (p : Ip), vs = [v] ∧ InQ K H v p ∧ ipOk p = true ∧ p.1 ≠ [] ∧ ∀ t x y H', Same H H' → H' t = some (.tup [x, y]) → InQ K H' x (rstQ p) → Q (.ref t) H'
theorem len_turned_rest_of {K : PySem.W.Frag} {vs : List V} {H : Hp} {Q : VK} {E : XK} (h : sp_turned_rest_of K vs H Q E) : vs.length = ["rest"].length := by
  obtain ⟨_, _, rfl, _⟩ := h
  rfl
def t_turned_rest_of_f1_b (K : PySem.W.Frag) : TS := (tAsg (tCB rGcd (tCons (tVar 3) (tCons (tVar 4) tNil))) (gName 3))
def t_turned_rest_of (K : PySem.W.Frag) : TS := (tSeq (tAsg (tVar 0) (gTup K 2 (gCons (gName 1) (gCons (gName 2) gNil))))
  (tSeq (tAsg (tC (.int 0)) (gName 3))
  (tSeq (tFor (iTup K (tVar 1)) (gName 4) (t_turned_rest_of_f1_b K))
  (tRet (tTup (tCons (tCall (sp_settled K) [] E0 (tCons (tC (.int 0)) (tCons (tLc (iTup K (tVar 1)) (gName 4) tYes (tOp rDivZ (tUn rNeg (tVar 4)) (tVar 3)) [4]) (tCons (tC (.int 1)) tNil)))) (tCons (tCall (sp_quotient K) [] E0 (tCons (tC (.int 0)) (tCons (tVar 3) (tCons (tVar 2) tNil)))) tNil)))))))
theorem pure_turned_rest_of (K : PySem.W.Frag) (vs : List V) (H : Hp) (Q : VK) (E : XK) (h : sp_turned_rest_of K vs H Q E) : t_turned_rest_of K { nx := fun _ H' => Q .non H', rt := Q } (start ["rest", "numbers", "bottom", "common", "number"] vs) H := by
  obtain ⟨v, ⟨ns, b⟩, rfl, hv, hok, hne, hq⟩ := h
  have hlen : ns.length < 30 := ipOk_len hok
  have hall : ∀ n ∈ ns, Sz 1500 n := ipOk_all hok
  obtain ⟨sb, b0⟩ := ipOk_bot hok
  have sb : Sz 1500 b := sb
  have b0 : b ≠ 0 := b0
  obtain ⟨low, lead, e1, lead0, _, _⟩ := (ipOk_last hok).resolve_left fun h => hne h.1
  have e1 : ns = low ++ [lead] := e1
  have hd := gcdL_dvd ns 0
  have hnn := gcdL_nn ns 0 (by decide)
  have hl : lead ∈ ns := by rw [e1]; simp
  have g0 : gcdL 0 ns ≠ 0 := fun e => by
    have := hd.2 lead hl
    rw [e] at this
    exact lead0 (Int.zero_dvd.mp this)
  have sg : Sz 1500 (gcdL 0 ns) := by
    have h1 : (gcdL 0 ns).natAbs ≤ lead.natAbs := Nat.le_of_dvd (by omega) (Int.natAbs_dvd_natAbs.mpr (hd.2 lead hl))
    exact Nat.lt_of_le_of_lt h1 (hall lead hl)
  unfold t_turned_rest_of
  walk_at "z"
  obtain ⟨a1, _, rfl, h1, A1, rfl, hA1⟩ := id hv
  refine ⟨a1, _, rfl, h1, rfl, ?_⟩
  walk_at "z"
  refine ⟨A1, rfl, ⟨_, hA1⟩, for_T (xs := ns.map V.int) (fun i σ H' => ∃ c o4, σ = [some (.ref a1), some (.ref A1), some (.int b), some (.int c), o4] ∧ H' = H ∧ gcdL c (ns.drop i) = gcdL 0 ns) ⟨0, _, rfl, rfl, rfl⟩
    (fun i σ H' _ h => by obtain ⟨_, _, _, rfl, _⟩ := h; exact hA1) (fun i x σ H' hx h N hN => ?_) (fun σ H' h => ?_)⟩
  · obtain ⟨c, o4, rfl, rfl, hg⟩ := h
    obtain ⟨n, hn, rfl⟩ := get_int hx
    rw [drop_of_get hn, gcdL] at hg
    unfold t_turned_rest_of_f1_b
    walk_at "z"
    exact hN _ _ ⟨_, _, rfl, rfl, hg⟩
  · obtain ⟨c, o4, rfl, rfl, hg⟩ := h
    rw [List.length_map, List.drop_length] at hg
    have hg : c = gcdL 0 ns := hg
    subst hg
    walk_at "z"
    refine ⟨A1, rfl, ⟨_, hA1⟩, comp_T (xs := ns.map V.int) hA1 (fun i => (ns[i]?).map fun n => V.int (-n / gcdL 0 ns)) (by rw [List.length_map]; omega) (fun i x H2 hx s Qo hQo => ?_) (fun L H2 s hL => ?_)⟩
    · obtain ⟨n, hn, rfl⟩ := get_int hx
      walk_at "z"
      have lc : (gcdL 0 ns).natAbs.log2 < 9000 := Nat.lt_of_lt_of_le (PySem.Flt.log2_lt_of (k := 1500) (by decide) sg) (by decide)
      refine ⟨⟨g0, lc⟩, ?_⟩
      rw [Int.fdiv_eq_ediv_of_dvd ((Int.dvd_neg).mpr (hd.2 n (List.mem_of_getElem? hn)))]
      have := hQo H2 (Same.refl _)
      rw [hn] at this
      exact this
    · rw [outL_get ns _ (by simp)] at hL
      have hL : H2 L = some (.lst ((ns.map fun n => -n / gcdL 0 ns).map V.int)) := by rw [hL, List.map_map]; rfl
      refine ⟨0, L, _, 1, true, rfl, sqL_of hL, by rw [List.length_map]; omega, by decide, fun h => absurd rfl h, fun _ => ⟨by decide, Nat.one_lt_two_pow (by decide)⟩, fun x ks k H3 s3 hx hS => ?_⟩
      have e := stl_q hS (by decide)
      refine ⟨0, gcdL 0 ns, b, rfl, by decide, fun _ => ⟨b0, szU sb (by decide), fun q y z H4 s4 _ _ _ hq4 => ?_⟩, fun h => absurd rfl h⟩
      refine ⟨by decide, fun t ht => ?_⟩
      have s5 := same_upd (o := .tup [x, .ref q]) ht
      refine hq t x (.ref q) _ (((s.trans s3).trans s4).trans s5) upd_same ?_
      unfold InQ rstQ
      rw [← e]
      exact (hx.same s4).same s5
theorem ok_turned_rest_of {P : Program} {w : World} {K : PySem.W.Frag} {mg : Str → Option Value} {base : Heap} (T : Tx K mg) : Okk P w K mg base 4 "turned_rest_of" ["rest"] (sp_turned_rest_of K) := by
  obtain ⟨fd_quotient, F_quotient, b_quotient, g_quotient, k_quotient⟩ := ok_quotient (P := P) (w := w) (base := base) T
  obtain ⟨fd_settled, F_settled, b_settled, g_settled, k_settled⟩ := ok_settled (P := P) (w := w) (base := base) T
  have hb_gcd := T.b_gcd
  obtain ⟨fd, F⟩ := T.f_turned_rest_of
  refine ⟨fd, F.ok sc_turned_rest_of (fun vs H Q E h => len_turned_rest_of h) (fun cdv A outer s H vs Q E hr h => ⟨t_turned_rest_of K, PSs.nox ?_, pure_turned_rest_of K vs H Q E h⟩), F.bindsN (fun _ _ _ _ _ _ us hl => match us, hl with | [_], _ => rfl), T.g_turned_rest_of, F.kp⟩
  exact (pss_cons (ps_asg (pv 0) (pg_tup rfl (pgs_cons (pg_name (i := 1) sc_turned_rest_of.nd rfl (by first | exact Or.inl rfl | exact Or.inr rfl)) (pgs_cons (pg_name (i := 2) sc_turned_rest_of.nd rfl (by first | exact Or.inl rfl | exact Or.inr rfl)) pgs_nil))))
      (pss_cons (ps_set (i := 3) sc_turned_rest_of.nd rfl (by first | exact Or.inl rfl | exact Or.inr rfl) pe_int)
      (pss_cons (ps_for PassesOwn.never rfl (pi_tup (pv 1)) (pg_name (i := 4) sc_turned_rest_of.nd rfl (by first | exact Or.inl rfl | exact Or.inr rfl)) (pss_one (ps_set (i := 3) sc_turned_rest_of.nd rfl (by first | exact Or.inl rfl | exact Or.inr rfl) (pe_callBfun cr_gcd rfl hb_gcd (pa_cons (pv 3) (pa_cons (pv 4) pa_nil))))))
      (pss_one (ps_ret (pe_tup (pa_cons (pe_call F_settled (hr.mono (by decide)) rfl g_settled k_settled b_settled .nil pass0 (pa_cons pe_int (pa_cons (pe_lc (own := [("number", 4)]) (g := (gName 4)) (tt := tYes) rfl sc_turned_rest_of.nd (pi_tup (pv 1)) (blkOk_by (own := [("number", 4)]) (N := ["rest", "numbers", "bottom", "common", "number"]) (sc := defScope s_turned_rest_of) (by decide +kernel)) (fun _ _ _ _ _ => (pg_name (i := 4) sc_turned_rest_of.nd rfl (by first | exact Or.inl rfl | exact Or.inr rfl))) (fun _ _ _ _ _ => pts_nil) (fun _ _ _ _ _ => (pe_op op_fdivZ (pe_un un_neg (pv 4)) (pv 3)))) (pa_cons pe_int pa_nil)))) (pa_cons (pe_call F_quotient (hr.mono (by decide)) rfl g_quotient k_quotient b_quotient .nil pass0 (pa_cons pe_int (pa_cons (pv 3) (pa_cons (pv 2) pa_nil)))) pa_nil))))))))
/-! ### with_ends -/
theorem sc_with_ends : FnScope ["inner", "low", "high", "bound"] ["inner", "low", "high"] (defScope s_with_ends) := ⟨rfl, rfl, rfl, by decide +kernel, rfl, by decide +kernel, by decide +kernel⟩
def sp_with_ends (K : PySem.W.Frag) : Sp := fun _ _ _ _ => False
theorem len_with_ends {K : PySem.W.Frag} {vs : List V} {H : Hp} {Q : VK} {E : XK} (h : sp_with_ends K vs H Q E) : vs.length = ["inner", "low", "high"].length := h.elim
theorem ok_with_ends {P : Program} {w : World} {K : PySem.W.Frag} {mg : Str → Option Value} {base : Heap} (T : Tx K mg) : Okk P w K mg base 4 "with_ends" ["inner", "low", "high"] (sp_with_ends K) := by
  obtain ⟨fd, F⟩ := T.f_with_ends
  exact ⟨fd, F.ok sc_with_ends (fun vs H Q E h => len_with_ends h) (fun cdv A outer s H vs Q E hr h => h.elim), F.bindsN (fun _ _ _ _ _ _ us hl => match us, hl with | [_, _, _], _ => rfl), T.g_with_ends, F.kp⟩
/-! ### middle -/
theorem sc_middle : FnScope ["low", "high"] ["low", "high"] (defScope s_middle) := ⟨rfl, rfl, rfl, by decide +kernel, rfl, by decide +kernel, by decide +kernel⟩
def sp_middle (K : PySem.W.Frag) : Sp := fun _ _ _ _ => False
theorem len_middle {K : PySem.W.Frag} {vs : List V} {H : Hp} {Q : VK} {E : XK} (h : sp_middle K vs H Q E) : vs.length = ["low", "high"].length := h.elim
theorem ok_middle {P : Program} {w : World} {K : PySem.W.Frag} {mg : Str → Option Value} {base : Heap} (T : Tx K mg) : Okk P w K mg base 4 "middle" ["low", "high"] (sp_middle K) := by
  obtain ⟨fd, F⟩ := T.f_middle
  exact ⟨fd, F.ok sc_middle (fun vs H Q E h => len_middle h) (fun cdv A outer s H vs Q E hr h => h.elim), F.bindsN (fun _ _ _ _ _ _ us hl => match us, hl with | [_, _], _ => rfl), T.g_middle, F.kp⟩
/-! ### poly_fits -/
theorem sc_poly_fits : FnScope ["ground", "value", "most", "limit"] ["ground", "value", "most", "limit"] (defScope s_poly_fits) := ⟨rfl, rfl, rfl, by decide +kernel, rfl, by decide +kernel, by decide +kernel⟩
def topD : PyData → Int
  | .int n => n
  | .tuple (.int n :: _) => n
  | _ => 1
def botD : PyData → Int
  | .tuple [_, .int b] => b
  | _ => 1
def lenOk (most : Option Int) (n : Nat) : Bool := match most with
  | none => true
  | some m => decide ((n : Int) ≤ m + 1)
def lastOk (ds : List PyData) : Bool := match ds.getLast? with
  | none => true
  | some d => decide (topD d ≠ 0)
def polyB (g : Int) (most : Option Int) (lim : Int) : PyData → Bool
  | .tuple ds => lenOk most ds.length && ds.all (numB g lim) && lastOk ds
  | _ => false
def qsOf (ds : List PyData) : List (Int × Int) := ds.map fun d => (topD d, botD d)
theorem polyB_t {g l : Int} {m : Option Int} {ds : List PyData} : polyB g m l (.tuple ds) = (lenOk m ds.length && ds.all (numB g l) && lastOk ds) := rfl
def mostV : Option Int → V
  | none => .non
  | some m => .int m
def sp_poly_fits (K : PySem.W.Frag) : Sp := fun vs H Q _ => ∃ (g : Int) (v : V) (d : PyData) (most : Option Int) (l : Int) (no : List Addr), vs = [.int g, v, mostV most, .int l] ∧ Pl H no d v ∧ (∀ ds, d = .tuple ds → ds.length < 2 ^ 20) ∧ ∀ H', Same H H' → Q (.bl (polyB g most l d)) H'
theorem len_poly_fits {K : PySem.W.Frag} {vs : List V} {H : Hp} {Q : VK} {E : XK} (h : sp_poly_fits K vs H Q E) : vs.length = ["ground", "value", "most", "limit"].length := by
  obtain ⟨_, _, _, _, _, _, rfl, _⟩ := h
  rfl
def t_poly_fits (K : PySem.W.Frag) : TS := (tSeq (tIfS (tOr (tNot (tB (tCB (rIsi K) (tCons (tVar 1) (tCons (tC (.ty "tuple")) tNil))))) (tAnd (tB (tNotN (tVar 2))) (tTest (tOp rGtI (tCB (rLenU K) (tCons (tVar 1) tNil)) (tOp rAdd (tVar 2) (tC (.int 1))))))) (tRet (tC (.bl false))) tNext)
  (tSeq (tIfS (tNot (tB (tCall (sp_vector_fits K) [] E0 (tCons (tVar 0) (tCons (tVar 1) (tCons (tCB (rLenU K) (tCons (tVar 1) tNil)) (tCons (tVar 3) tNil))))))) (tRet (tC (.bl false))) tNext)
  (tRet (tOrV (tOp rEq (tCB (rLenU K) (tCons (tVar 1) tNil)) (tC (.int 0))) (tNotV (tCall (sp_is_zero K) [] E0 (tCons (tVar 0) (tCons (tOp (rIxA K) (tVar 1) (tUn rNeg (tC (.int 1)))) tNil))))))))
theorem num_of_pl {H : Hp} {no : List Addr} {d : PyData} {v : V} {g l : Int} (p : Pl H no d v) (h : numB g l d = true) : NumR H g v (topD d) (botD d) := by
  cases d with
  | int n =>
    unfold numB at h
    rw [decide_eq_true_eq] at h
    rw [Pl] at p
    exact .inr ⟨h.1, p, rfl, h.2⟩
  | tuple ds =>
    unfold numB at h
    split at h
    · contradiction
    · rename_i x y e
      cases e
      rw [decide_eq_true_eq] at h
      obtain ⟨a, ys, rfl, hT, hA⟩ := pl_tup p
      match ys, hA with
      | [u, w], hA =>
        have e1 : Pl H no (.int x) u := hA.2 0 _ _ rfl rfl
        have e2 : Pl H no (.int y) w := hA.2 1 _ _ rfl rfl
        rw [Pl] at e1 e2
        subst e1; subst e2
        exact .inl ⟨h.1, ⟨a, rfl, hT⟩, h.2.2.2⟩
      | [], hA => exact absurd hA.1 (by simp)
      | [_], hA => exact absurd hA.1 (by simp)
      | _ :: _ :: _ :: _, hA => exact absurd hA.1 (by simp)
    · cases h
  | _ => simp [numB] at h
theorem pure_poly_fits (K : PySem.W.Frag) (vs : List V) (H : Hp) (Q : VK) (E : XK) (h : sp_poly_fits K vs H Q E) : t_poly_fits K { nx := fun _ H' => Q .non H', rt := Q } (start ["ground", "value", "most", "limit"] vs) H := by
  obtain ⟨g, v, d, most, l, no, rfl, p, hm, hq⟩ := h
  unfold t_poly_fits
  walk_at "z"
  refine isi_pl p ?_
  walk_at "z"
  cases h : isTup d with
  | false =>
    have e : polyB g most l d = false := by
      cases d <;> first | rfl | simp [isTup] at h
    have := hq H (Same.refl H)
    rw [e] at this
    simpa using this
  | true =>
    obtain ⟨ds, rfl⟩ := tup_of h
    obtain ⟨a, xs, rfl, hT, hA⟩ := pl_tup p
    rw [if_neg (by decide)]
    have hlen := hm ds rfl
    have tail : lenOk most ds.length = true → rLenU K [V.ref a] H fun x H1 => sp_vector_fits K [V.int g, V.ref a, x, V.int l] H1 (fun x H' => ∃ k, x = V.bl k ∧ if k = false then Q (V.bl false) H' else rLenU K [V.ref a] H' fun x H1 => rEq x (V.int 0) H1 fun x H1 => ∃ c, x = V.bl c ∧ if c = true then Q (V.bl true) H1 else rIxA K (V.ref a) (V.int (-1)) H1 fun x H1 => sp_is_zero K [V.int g, x] H1 (fun x H1 => ∃ c, x = V.bl c ∧ Q (V.bl !c) H1) E0) E0 := by
      intro hk
      refine lenT (sqT_of hT) ?_
      refine ⟨g, V.ref a, .tuple ds, xs.length, l, no, rfl, p, by rw [hA.1]; exact hlen, fun H1 s1 => ⟨_, rfl, ?_⟩⟩
      rw [vecB_t, decide_eq_true hA.1.symm, Bool.true_and]
      have q := hq H1 s1
      rw [polyB_t, hk, Bool.true_and] at q
      cases ha : ds.all (numB g l) with
      | false =>
        rw [ha] at q
        rw [if_pos rfl]
        simpa using q
      | true =>
        rw [ha, Bool.true_and] at q
        rw [if_neg (by decide)]
        refine lenT (sqT_of (s1 _ _ hT)) ?_
        walk_at "z"
        by_cases h0 : xs.length = 0
        · rw [if_pos (by omega)]
          have : ds = [] := List.eq_nil_of_length_eq_zero (by rw [← hA.1]; exact h0)
          subst this
          exact q
        · rw [if_neg (by omega)]
          obtain ⟨ys, x, rfl⟩ : ∃ ys x, xs = ys ++ [x] := ⟨xs.dropLast, xs.getLast (by intro e; exact h0 (by rw [e]; rfl)), (List.dropLast_concat_getLast _).symm⟩
          obtain ⟨es, e, rfl⟩ : ∃ es e, ds = es ++ [e] := ⟨ds.dropLast, ds.getLast (by intro e; exact h0 (by rw [hA.1, e]; rfl)), (List.dropLast_concat_getLast _).symm⟩
          have hl2 : ys.length = es.length := by have := hA.1; simp at this; exact this
          refine ixT (sqT_of (s1 _ _ hT)) (v := x) (L2.atI_last _ _) ?_
          have pe : Pl H no e x := hA.2 ys.length x e (by simp) (by rw [hl2]; simp)
          have he : numB g l e = true := List.all_eq_true.mp ha e (by simp)
          refine ⟨g, x, _, _, rfl, (num_of_pl pe he).same s1, _, rfl, ?_⟩
          have e2 : lastOk (es ++ [e]) = !decide (topD e = 0) := by
            unfold lastOk
            rw [List.getLast?_concat]
            by_cases c : topD e = 0 <;> simp [c]
          rw [e2] at q
          exact q
    cases most with
    | none =>
      rw [if_neg (by simp [mostV])]
      exact tail rfl
    | some m =>
      rw [if_pos (by simp [mostV])]
      refine lenT (sqT_of hT) ?_
      simp only [mostV]
      walk_at "z"
      by_cases c : (xs.length : Int) > m + 1
      · rw [if_pos c]
        have q := hq H (Same.refl _)
        rw [polyB_t, show lenOk (some m) ds.length = false from decide_eq_false (by rw [← hA.1]; omega)] at q
        simpa using q
      · rw [if_neg c]
        exact tail (decide_eq_true (by rw [← hA.1]; omega))

theorem ok_poly_fits {P : Program} {w : World} {K : PySem.W.Frag} {mg : Str → Option Value} {base : Heap} (T : Tx K mg) : Okk P w K mg base 5 "poly_fits" ["ground", "value", "most", "limit"] (sp_poly_fits K) := by
  obtain ⟨fd_vector_fits, F_vector_fits, b_vector_fits, g_vector_fits, k_vector_fits⟩ := ok_vector_fits (P := P) (w := w) (base := base) T
  obtain ⟨fd_is_zero, F_is_zero, b_is_zero, g_is_zero, k_is_zero⟩ := ok_is_zero (P := P) (w := w) (base := base) T
  have hf_isinstance := T.n_isinstance
  have hf_len := T.n_len
  have hf_tuple := T.n_tuple
  obtain ⟨fd, F⟩ := T.f_poly_fits
  refine ⟨fd, F.ok sc_poly_fits (fun vs H Q E h => len_poly_fits h) (fun cdv A outer s H vs Q E hr h => ⟨t_poly_fits K, PSs.nox ?_, pure_poly_fits K vs H Q E h⟩), F.bindsN (fun _ _ _ _ _ _ us hl => match us, hl with | [_, _, _, _], _ => rfl), T.g_poly_fits, F.kp⟩
  exact (pss_cons (ps_if (PW.pt (pw_or (pt_not (pt_val (pe_callB call_isi (by rfl) hf_isinstance (by decide +kernel) (pa_cons (pv 1) (pa_cons (pe_bltn (v := .ty "tuple") rfl hf_tuple (by decide +kernel) rfl) pa_nil))))) (pw_or1 (PW.pt (pw_and (pt_cmp (pc_notN (pv 2))) (pw_and1 (pt_cmpR op_gt (pe_callB call_len_seq (by rfl) hf_len (by decide +kernel) (pa_cons (pv 1) pa_nil)) (pe_op op_add (pv 2) pe_int) (nomark _)))))))) (pss_one (ps_ret pe_bl)) pss_nil)
      (pss_cons (ps_if (pt_not (pt_val (pe_call F_vector_fits (hr.mono (by decide)) rfl g_vector_fits k_vector_fits b_vector_fits .nil pass0 (pa_cons (pv 0) (pa_cons (pv 1) (pa_cons (pe_callB call_len_seq (by rfl) hf_len (by decide +kernel) (pa_cons (pv 1) pa_nil)) (pa_cons (pv 3) pa_nil))))))) (pss_one (ps_ret pe_bl)) pss_nil)
      (pss_one (ps_ret (pe_or (pe_cmpR op_eq (pe_callB call_len_seq (by rfl) hf_len (by decide +kernel) (pa_cons (pv 1) pa_nil)) pe_int (nomark _)) (pe_one (pe_not (pe_call F_is_zero (hr.mono (by decide)) rfl g_is_zero k_is_zero b_is_zero .nil pass0 (pa_cons (pv 0) (pa_cons (pe_ix ix_lt (pv 1) (pe_un un_neg pe_int) (fun _ _ => rfl)) pa_nil))))))))))
/-! ### over_poly -/
theorem sc_over_poly : FnScope ["ground", "one", "other"] ["ground", "one", "other"] (defScope s_over_poly) := ⟨rfl, rfl, rfl, by decide +kernel, rfl, by decide +kernel, by decide +kernel⟩
def sp_over_poly (K : PySem.W.Frag) : Sp := fun vs H Q _ => ∃ (v w : V) (p q : Ip), vs = [.int 0, v, w] ∧ InQ K H v p ∧ InQ K H w q ∧ divOk p q = true ∧ ∀ x H', Same H H' → InQ K H' x (divQ p q).1 → Q x H'
theorem len_over_poly {K : PySem.W.Frag} {vs : List V} {H : Hp} {Q : VK} {E : XK} (h : sp_over_poly K vs H Q E) : vs.length = ["ground", "one", "other"].length := by
  obtain ⟨_, _, _, _, rfl, _⟩ := h
  rfl
def t_over_poly (K : PySem.W.Frag) : TS := (tRet (tOp (rIxA K) (tCall (sp_divided_by K) [] E0 (tCons (tVar 0) (tCons (tVar 1) (tCons (tVar 2) tNil)))) (tC (.int 0))))
theorem pure_over_poly (K : PySem.W.Frag) (vs : List V) (H : Hp) (Q : VK) (E : XK) (h : sp_over_poly K vs H Q E) : t_over_poly K { nx := fun _ H' => Q .non H', rt := Q } (start ["ground", "one", "other"] vs) H := by
  obtain ⟨v, w, p, q, rfl, hv, hw, hok, hq⟩ := h
  unfold t_over_poly
  walk_at "z"
  refine ⟨v, w, p, q, rfl, hv, hw, hok, fun t x y H' s ht hx hy => ?_⟩
  exact ixT (sqT_of ht) (v := x) rfl (hq x H' s hx)
theorem ok_over_poly {P : Program} {w : World} {K : PySem.W.Frag} {mg : Str → Option Value} {base : Heap} (T : Tx K mg) : Okk P w K mg base 5 "over_poly" ["ground", "one", "other"] (sp_over_poly K) := by
  obtain ⟨fd_divided_by, F_divided_by, b_divided_by, g_divided_by, k_divided_by⟩ := ok_divided_by (P := P) (w := w) (base := base) T
  obtain ⟨fd, F⟩ := T.f_over_poly
  refine ⟨fd, F.ok sc_over_poly (fun vs H Q E h => len_over_poly h) (fun cdv A outer s H vs Q E hr h => ⟨t_over_poly K, PSs.nox ?_, pure_over_poly K vs H Q E h⟩), F.bindsN (fun _ _ _ _ _ _ us hl => match us, hl with | [_, _, _], _ => rfl), T.g_over_poly, F.kp⟩
  exact (pss_one (ps_ret (pe_ix ix_lt (pe_call F_divided_by (hr.mono (by decide)) rfl g_divided_by k_divided_by b_divided_by .nil pass0 (pa_cons (pv 0) (pa_cons (pv 1) (pa_cons (pv 2) pa_nil)))) pe_int (fun _ _ => rfl))))
/-! ### common_part -/
theorem sc_common_part : FnScope ["ground", "one", "other", "rest", "after"] ["ground", "one", "other"] (defScope s_common_part) := ⟨rfl, rfl, rfl, by decide +kernel, rfl, by decide +kernel, by decide +kernel⟩
def sp_common_part (K : PySem.W.Frag) : Sp := fun vs H Q _ => ∃ (v w : V) (p q : Ip), vs = [.int 0, v, w] ∧ InQ K H v p ∧ InQ K H w q ∧ comB 30 p q = true ∧ ∀ x H', Same H H' → InQ K H' x (comQ 30 p q) → Q x H'
theorem len_common_part {K : PySem.W.Frag} {vs : List V} {H : Hp} {Q : VK} {E : XK} (h : sp_common_part K vs H Q E) : vs.length = ["ground", "one", "other"].length := by
  obtain ⟨_, _, _, _, rfl, _⟩ := h
  rfl
def t_common_part_w1_c (K : PySem.W.Frag) : TT := (tTest (tOp (rNeD K) (tVar 4) (tCt K (.tuple [.tuple [], .int (1)]))))
def t_common_part_w1_b (K : PySem.W.Frag) : TS := (tPar 3 4 (tCons (tVar 4) (tCons (tCall (sp_monic K) [] E0 (tCons (tVar 0) (tCons (tOp (rIxA K) (tCall (sp_divided_by K) [] E0 (tCons (tVar 0) (tCons (tVar 3) (tCons (tVar 4) tNil)))) (tC (.int 1))) tNil))) tNil)))
def t_common_part (K : PySem.W.Frag) : TS := (tSeq (tPar 3 4 (tCons (tVar 1) (tCons (tVar 2) tNil)))
  (tSeq (tWhile (t_common_part_w1_c K) (t_common_part_w1_b K))
  (tRet (tCall (sp_monic K) [] E0 (tCons (tVar 0) (tCons (tVar 3) tNil))))))
theorem ipOk_nil {p : Ip} (h : ipOk p = true) : (p.1 = [] ∧ p.2 = 1) ↔ p.1 = [] := by
  rcases ipOk_last h with h | ⟨low, lead, e, _⟩
  · exact ⟨fun h => h.1, fun _ => h⟩
  · exact ⟨fun h => h.1, fun e2 => by rw [e] at e2; simp at e2⟩
theorem pure_common_part (K : PySem.W.Frag) (vs : List V) (H : Hp) (Q : VK) (E : XK) (h : sp_common_part K vs H Q E) : t_common_part K { nx := fun _ H' => Q .non H', rt := Q } (start ["ground", "one", "other", "rest", "after"] vs) H := by
  obtain ⟨v, w, p, q, rfl, hv, hw, hok, hq⟩ := h
  unfold t_common_part
  walk_at "z"
  refine while_of (fun μ σ H' => ∃ x y r a, σ = [some (.int 0), some v, some w, some x, some y] ∧ Same H H' ∧ InQ K H' x r ∧ InQ K H' y a ∧ comB μ r a = true ∧ comQ μ r a = comQ 30 p q) 30 ⟨v, w, p, q, rfl, Same.refl _, hv, hw, hok, rfl⟩ ?_
  rintro μ σ H' ⟨x, y, r, a, rfl, s, hx, hy, hB, hC⟩ N hN hN2
  unfold t_common_part_w1_c t_common_part_w1_b
  walk_at "z"
  intro c hc
  cases μ with
  | zero => cases hB
  | succ k =>
    simp only [comB, Bool.and_eq_true] at hB
    obtain ⟨⟨okr, oka⟩, hB⟩ := hB
    refine in_ne hy (InP.of (ns := []) (hc H')) ⟨_, rfl, ?_⟩
    rw [comQ] at hC
    by_cases h0 : a.1 = []
    · rw [if_neg (by have := (ipOk_nil oka).mpr h0; simp [this.1, this.2])]
      rw [if_pos h0] at hC
      exact ⟨x, r, rfl, hx, okr, fun z H2 s2 hz => hq z H2 (s.trans s2) (by rw [← hC]; exact hz)⟩
    · rw [if_pos (by simp [h0])]
      rw [if_neg h0] at hC hB
      simp only [Bool.and_eq_true] at hB
      obtain ⟨⟨b1, b2⟩, b3⟩ := hB
      refine ⟨N, hN2, ?_⟩
      walk_at "z"
      refine ⟨x, y, r, a, rfl, hx, hy, b1, fun t z u H2 s2 ht hz hu => ?_⟩
      refine ixT (sqT_of ht) (v := u) rfl ?_
      refine ⟨u, _, rfl, hu, b2, fun u2 H3 s3 hu2 => ?_⟩
      walk_at "z"
      exact hN k _ _ (Nat.lt_succ_self k) ⟨_, _, _, _, rfl, (s.trans s2).trans s3, (hy.same s2).same s3, hu2, b3, hC⟩
theorem ok_common_part {P : Program} {w : World} {K : PySem.W.Frag} {mg : Str → Option Value} {base : Heap} (T : Tx K mg) : Okk P w K mg base 5 "common_part" ["ground", "one", "other"] (sp_common_part K) := by
  obtain ⟨fd_divided_by, F_divided_by, b_divided_by, g_divided_by, k_divided_by⟩ := ok_divided_by (P := P) (w := w) (base := base) T
  obtain ⟨fd_monic, F_monic, b_monic, g_monic, k_monic⟩ := ok_monic (P := P) (w := w) (base := base) T
  obtain ⟨hc_NOTHING, hk_NOTHING⟩ := T.c_NOTHING
  obtain ⟨fd, F⟩ := T.f_common_part
  refine ⟨fd, F.ok sc_common_part (fun vs H Q E h => len_common_part h) (fun cdv A outer s H vs Q E hr h => ⟨t_common_part K, PSs.nox ?_, pure_common_part K vs H Q E h⟩), F.bindsN (fun _ _ _ _ _ _ us hl => match us, hl with | [_, _, _], _ => rfl), T.g_common_part, F.kp⟩
  have hu64 := hu64_of hr
  exact (pss_cons (ps_par (i := 3) (j := 4) rfl sc_common_part.nd rfl rfl (by decide) rfl rfl (pa_cons (pv 1) (pa_cons (pv 2) pa_nil)) (by rfl))
      (pss_cons (ps_while PassesOwn.never (pt_cmpR (op_neD hu64) (pv 4) (pe_ct (pe_glob (v := .ref (He.ga K "NOTHING")) rfl hc_NOTHING rfl) hk_NOTHING) (nomark _)) (pss_one (ps_par (i := 3) (j := 4) rfl sc_common_part.nd rfl rfl (by decide) rfl rfl (pa_cons (pv 4) (pa_cons (pe_call F_monic (hr.mono (by decide)) rfl g_monic k_monic b_monic .nil pass0 (pa_cons (pv 0) (pa_cons (pe_ix ix_lt (pe_call F_divided_by (hr.mono (by decide)) rfl g_divided_by k_divided_by b_divided_by .nil pass0 (pa_cons (pv 0) (pa_cons (pv 3) (pa_cons (pv 4) pa_nil)))) pe_int (fun _ _ => rfl)) pa_nil))) pa_nil)) (by rfl))))
      (pss_one (ps_ret (pe_call F_monic (hr.mono (by decide)) rfl g_monic k_monic b_monic .nil pass0 (pa_cons (pv 0) (pa_cons (pv 3) pa_nil)))))))
/-! ### closed_all -/
theorem sc_closed_all : FnScope ["ground", "inners", "inner"] ["ground", "inners"] (defScope s_closed_all) := ⟨rfl, rfl, rfl, by decide +kernel, rfl, by decide +kernel, by decide +kernel⟩
def sp_closed_all (K : PySem.W.Frag) : Sp := fun vs H Q _ => ∃ (a : Addr) (xs : List V) (b : Bool), vs = [.int 0, .ref a] ∧ H a = some (if b then .lst xs else .tup xs) ∧ xs.length < 2 ^ 20 ∧ (∀ x ∈ xs, ∃ p, InQ K H x p ∧ p.1.length < 30 ∧ Sz 1500 p.2 ∧ p.2 ≠ 0) ∧ ∀ v H', Same H H' → Q v H'
theorem len_closed_all {K : PySem.W.Frag} {vs : List V} {H : Hp} {Q : VK} {E : XK} (h : sp_closed_all K vs H Q E) : vs.length = ["ground", "inners"].length := by
  obtain ⟨_, _, _, rfl, _⟩ := h
  rfl
def t_closed_all (K : PySem.W.Frag) : TS := (tRet (tCB (rTupOf K) (tCons (tLc (iSeqB K (tVar 1)) (gName 2) tYes (tCall (sp_closed K) [] E0 (tCons (tVar 0) (tCons (tVar 2) tNil))) [2]) tNil)))
theorem lc_any {K : PySem.W.Frag} {b : Bool} {a : Addr} {xs : List V} {g : TG} {te : TE} {vs : List Nat} {σ : St} {H1 : Hp} {Q : VK} (hT : H1 a = some (if b then .lst xs else .tup xs)) (hn : xs.length < 2 ^ 20)
    (turn : ∀ (x : V) (H' : Hp), x ∈ xs → Same H1 H' → ∀ Qo : VK, (∀ H2 y, Same H' H2 → Qo y H2) → g x (wipe σ vs) H' fun σ2 H2 => wipe σ2 vs = wipe σ vs ∧ te σ2 H2 Qo)
    (fin : ∀ D H' zs, Same H1 H' → H' D = some (.lst zs) → zs.length = xs.length → Q (.ref D) H') : LcW (ItB b K a) H1 g tYes te vs σ Q := fun D hD => by
  have key : ∀ i (H' : Hp), (Same H1 H' ∧ ∃ zs, H' D = some (.lst zs) ∧ zs.length = i) → ∀ x, xs[i]? = some x → g x (wipe σ vs) H' fun σ2 H2 => wipe σ2 vs = wipe σ vs ∧ te σ2 H2 fun y H4 => OutOf D (fun H' => Same H1 H' ∧ ∃ zs, H' D = some (.lst zs) ∧ zs.length = i + 1) (some y) H4 := by
    intro i H' hp x hx
    refine turn x H' (List.mem_of_getElem? hx) hp.1 _ fun H2 y s => ?_
    obtain ⟨zs, hz, hl⟩ := hp.2
    have := (List.getElem?_eq_some_iff.mp hx).1
    refine ⟨zs, s _ _ hz, by rw [hl]; exact Nat.lt_of_lt_of_le (Nat.lt_trans this hn) (by decide), same_mutD (hp.1.trans s) hD, zs ++ [y], upd_same, by simp [hl]⟩
  cases b
  · exact lc_tup (K := K) (a := a) (xs := xs) (fun i H' => Same H1 H' ∧ ∃ zs, H' D = some (.lst zs) ∧ zs.length = i) ⟨same_upd hD, [], upd_same, rfl⟩ (fun i H' _ p => sqT_of (p.1 _ _ hT)) (fun i x H' hx p => key i H' p x hx) (fun H' ⟨s, zs, hz, hl⟩ => fin D H' zs s hz hl)
  · exact lc_list (K := K) (a := a) (xs := xs) (fun i H' => Same H1 H' ∧ ∃ zs, H' D = some (.lst zs) ∧ zs.length = i) ⟨same_upd hD, [], upd_same, rfl⟩ (fun i H' _ p => sqL_of (p.1 _ _ hT)) (fun i x H' hx p => key i H' p x hx) (fun H' ⟨s, zs, hz, hl⟩ => fin D H' zs s hz hl)
theorem pure_closed_all (K : PySem.W.Frag) (vs : List V) (H : Hp) (Q : VK) (E : XK) (h : sp_closed_all K vs H Q E) : t_closed_all K { nx := fun _ H' => Q .non H', rt := Q } (start ["ground", "inners", "inner"] vs) H := by
  obtain ⟨a, xs, b, rfl, ha, hl, hA, hq⟩ := h
  unfold t_closed_all
  walk_at "z"
  refine ⟨a, b, rfl, ⟨_, sqB_same ha⟩, lc_any ha hl (fun x H2 hx s Qo hQo => ?_) (fun D H2 zs s hz hzl => ?_)⟩
  · obtain ⟨p, hi, hn, sp, p0⟩ := hA x hx
    walk_at "z"
    exact ⟨0, x, p.1, p.2, rfl, hi.same s, by omega, fun _ => ⟨p0, szU sp (by decide)⟩, fun y H3 s3 _ _ => hQo _ _ s3⟩
  · exact ⟨D, zs, rfl, .inl ⟨sqL_of hz, fun p hp => hq _ _ (s.trans (same_upd hp))⟩⟩
theorem ok_closed_all {P : Program} {w : World} {K : PySem.W.Frag} {mg : Str → Option Value} {base : Heap} (T : Tx K mg) : Okk P w K mg base 5 "closed_all" ["ground", "inners"] (sp_closed_all K) := by
  obtain ⟨fd_closed, F_closed, b_closed, g_closed, k_closed⟩ := ok_closed (P := P) (w := w) (base := base) T
  have hf_tuple := T.n_tuple
  obtain ⟨fd, F⟩ := T.f_closed_all
  refine ⟨fd, F.ok sc_closed_all (fun vs H Q E h => len_closed_all h) (fun cdv A outer s H vs Q E hr h => ⟨t_closed_all K, PSs.nox ?_, pure_closed_all K vs H Q E h⟩), F.bindsN (fun _ _ _ _ _ _ us hl => match us, hl with | [_, _], _ => rfl), T.g_closed_all, F.kp⟩
  exact (pss_one (ps_ret (pe_callTy call_tuple_of (by rfl) hf_tuple (by decide +kernel) (pa_cons (pe_lc (own := [("inner", 2)]) (g := (gName 2)) (tt := tYes) rfl sc_closed_all.nd (pi_seqB (pv 1)) (blkOk_by (own := [("inner", 2)]) (N := ["ground", "inners", "inner"]) (sc := defScope s_closed_all) (by decide +kernel)) (fun _ _ _ _ _ => (pg_name (i := 2) sc_closed_all.nd rfl (by first | exact Or.inl rfl | exact Or.inr rfl))) (fun _ _ _ _ _ => pts_nil) (fun _ _ _ _ _ => (pe_call F_closed (hr.mono (by decide)) rfl g_closed k_closed b_closed .nil pass0 (pa_cons (pv 0) (pa_cons (pv 2) pa_nil))))) pa_nil))))
/-! ### roots_between -/
theorem sc_roots_between : FnScope ["chain", "low", "high"] ["chain", "low", "high"] (defScope s_roots_between) := ⟨rfl, rfl, rfl, by decide +kernel, rfl, by decide +kernel, by decide +kernel⟩
def sp_roots_between (K : PySem.W.Frag) : Sp := fun vs H Q _ => ∃ (c v w : V) (e f : Option (Int × Int)), vs = [c, v, w] ∧ EndV H v e ∧ EndV H w f ∧ ((c = .non ∧ Q (.int 0) H) ∨ ∃ p, ChainV K H c p ∧ (chainRow p).length < 40 ∧ ((chainRow p).all fun p => signB p e) = true ∧ ((chainRow p).all fun p => signB p f) = true ∧ ∀ H', Same H H' → Q (.int (chQ (chainRow p) e (-1) - chQ (chainRow p) f 1)) H')
theorem len_roots_between {K : PySem.W.Frag} {vs : List V} {H : Hp} {Q : VK} {E : XK} (h : sp_roots_between K vs H Q E) : vs.length = ["chain", "low", "high"].length := by
  obtain ⟨_, _, _, _, _, rfl, _⟩ := h
  rfl
def t_roots_between (K : PySem.W.Frag) : TS := (tSeq (tIfS (tB (tIsN (tVar 0))) (tRet (tC (.int 0))) tNext)
  (tRet (tCall (sp_changes_between K) [] E0 (tCons (tOp (rIxA K) (tVar 0) (tC (.int 1))) (tCons (tVar 1) (tCons (tVar 2) tNil))))))
theorem pure_roots_between (K : PySem.W.Frag) (vs : List V) (H : Hp) (Q : VK) (E : XK) (h : sp_roots_between K vs H Q E) : t_roots_between K { nx := fun _ H' => Q .non H', rt := Q } (start ["chain", "low", "high"] vs) H := by
  obtain ⟨c, v, w, e, f, rfl, he, hf, h⟩ := h
  unfold t_roots_between
  walk_at "z"
  rcases h with ⟨rfl, hq⟩ | ⟨p, hc, hl, b1, b2, hq⟩
  · rw [if_pos rfl]
    exact hq
  · obtain ⟨T, c, A, S, xs, ss, rfl, hT, hc, hA, hr, _⟩ := hc
    rw [if_neg (by simp)]
    refine ixT (sqT_of hT) (v := .ref A) rfl ?_
    exact ⟨A, v, w, xs, _, e, f, rfl, hA, hr, hl, he, hf, b1, b2, hq⟩
theorem ok_roots_between {P : Program} {w : World} {K : PySem.W.Frag} {mg : Str → Option Value} {base : Heap} (T : Tx K mg) : Okk P w K mg base 5 "roots_between" ["chain", "low", "high"] (sp_roots_between K) := by
  obtain ⟨fd_changes_between, F_changes_between, b_changes_between, g_changes_between, k_changes_between⟩ := ok_changes_between (P := P) (w := w) (base := base) T
  obtain ⟨fd, F⟩ := T.f_roots_between
  refine ⟨fd, F.ok sc_roots_between (fun vs H Q E h => len_roots_between h) (fun cdv A outer s H vs Q E hr h => ⟨t_roots_between K, PSs.nox ?_, pure_roots_between K vs H Q E h⟩), F.bindsN (fun _ _ _ _ _ _ us hl => match us, hl with | [_, _, _], _ => rfl), T.g_roots_between, F.kp⟩
  exact (pss_cons (ps_if (pt_cmp (pc_isN (pv 0))) (pss_one (ps_ret pe_int)) pss_nil)
      (pss_one (ps_ret (pe_call F_changes_between (hr.mono (by decide)) rfl g_changes_between k_changes_between b_changes_between .nil pass0 (pa_cons (pe_ix ix_lt (pv 0) pe_int (fun _ _ => rfl)) (pa_cons (pv 1) (pa_cons (pv 2) pa_nil)))))))
/-! ### check_poly -/
theorem sc_check_poly : FnScope ["ground", "poly"] ["ground", "poly"] (defScope s_check_poly) := ⟨rfl, rfl, rfl, by decide +kernel, rfl, by decide +kernel, by decide +kernel⟩
def sp_check_poly (K : PySem.W.Frag) : Sp := fun vs H Q E => ∃ (g : Int) (v : V) (d : PyData) (no : List Addr), vs = [.int g, v] ∧ Pl H no d v ∧ (∀ ds, d = .tuple ds → ds.length < 2 ^ 20) ∧ ((polyB g (some 12) (10 ^ 60) d = true ∧ ∀ H', Same H H' → Q .non H') ∨ (polyB g (some 12) (10 ^ 60) d = false ∧ Raise0 K E H "InvalidPoly"))
theorem len_check_poly {K : PySem.W.Frag} {vs : List V} {H : Hp} {Q : VK} {E : XK} (h : sp_check_poly K vs H Q E) : vs.length = ["ground", "poly"].length := by
  obtain ⟨_, _, _, _, rfl, _⟩ := h
  rfl
def t_check_poly (K : PySem.W.Frag) (E : XK) : TS := (tIfS (tNot (tB (tCall (sp_poly_fits K) [] E0 (tCons (tVar 0) (tCons (tVar 1) (tCons (tC (.int 12)) (tCons (tC (.int 1000000000000000000000000000000000000000000000000000000000000)) tNil))))))) (tRaise0 (He.ga K "InvalidPoly") (fun cls d _ H => E cls d H)) tNext)
theorem pure_check_poly (K : PySem.W.Frag) (vs : List V) (H : Hp) (Q : VK) (E : XK) (h : sp_check_poly K vs H Q E) : t_check_poly K E { nx := fun _ H' => Q .non H', rt := Q } (start ["ground", "poly"] vs) H := by
  obtain ⟨g, v, d, no, rfl, p, hl, h⟩ := h
  unfold t_check_poly
  walk_at "z"
  refine ⟨g, v, d, some 12, 10 ^ 60, no, rfl, p, hl, fun H' s => ⟨_, rfl, ?_⟩⟩
  rcases h with ⟨h, q⟩ | ⟨h, q⟩
  · rw [h]
    exact q H' s
  · rw [h]
    exact q H' s
theorem ok_check_poly {P : Program} {w : World} {K : PySem.W.Frag} {mg : Str → Option Value} {base : Heap} (T : Tx K mg) : OkkX P w K mg base 6 "check_poly" ["ground", "poly"] (sp_check_poly K) := by
  obtain ⟨fd_poly_fits, F_poly_fits, b_poly_fits, g_poly_fits, k_poly_fits⟩ := ok_poly_fits (P := P) (w := w) (base := base) T
  obtain ⟨_, hc_SIXTY_DIGITS⟩ := T.c_SIXTY_DIGITS
  obtain ⟨_, hc_MAX_DEGREE⟩ := T.c_MAX_DEGREE
  obtain ⟨fd, F⟩ := T.f_check_poly
  refine ⟨fd, F.ok sc_check_poly (fun vs H Q E h => len_check_poly h) (fun cdv A outer s H vs Q E hr h => ⟨t_check_poly K E, ?_, pure_check_poly K vs H Q E h⟩), F.bindsN (fun _ _ _ _ _ _ us hl => match us, hl with | [_, _], _ => rfl), T.g_check_poly, F.kp⟩
  exact (pss_one (ps_if (pt_not (pt_val (pe_call F_poly_fits (hr.mono (by decide)) rfl g_poly_fits k_poly_fits b_poly_fits .nil pass0 (pa_cons (pv 0) (pa_cons (pv 1) (pa_cons (pe_glob rfl hc_MAX_DEGREE ⟨_, rfl⟩) (pa_cons (pe_glob rfl hc_SIXTY_DIGITS ⟨_, rfl⟩) pa_nil))))))) (pss_one (ps_raise0 rfl (takes_of rfl rfl rfl rfl) T.e_InvalidPoly.1 T.e_InvalidPoly.2 rfl (by decide))) pss_nil))
/-! ### chain_of -/
theorem sc_chain_of : FnScope ["inner", "change", "common", "row", "steps", "often", "rest", "later", "divisor"] ["inner"] (defScope s_chain_of) := ⟨rfl, rfl, rfl, by decide +kernel, rfl, by decide +kernel, by decide +kernel⟩
def sp_chain_of (K : PySem.W.Frag) : Sp := fun vs H Q _ => ∃ (v : V) (p : Ip), vs = [v] ∧ InQ K H v p ∧ ((p.1.length = 1 ∧ Q .non H) ∨ (chainB p = true ∧ ∀ x H', Same H H' → ChainV K H' x p → Q x H'))
theorem len_chain_of {K : PySem.W.Frag} {vs : List V} {H : Hp} {Q : VK} {E : XK} (h : sp_chain_of K vs H Q E) : vs.length = ["inner"].length := by
  obtain ⟨_, _, rfl, _⟩ := h
  rfl
def t_chain_of_w1_c (K : PySem.W.Frag) : TT := (tTest (tOp rGtI (tCall (sp_degree_of K) [] E0 (tCons (tOp (rIxA K) (tVar 3) (tUn rNeg (tC (.int 1)))) tNil)) (tC (.int 0))))
def t_chain_of_w1_b (K : PySem.W.Frag) : TS := (tSeq (tAsg (tCall (sp_divided_by K) [] E0 (tCons (tC (.int 0)) (tCons (tOp (rIxA K) (tVar 3) (tUn rNeg (tC (.int 2)))) (tCons (tOp (rIxA K) (tVar 3) (tUn rNeg (tC (.int 1)))) tNil)))) (gTup K 2 (gCons (gName 5) (gCons (gName 6) gNil))))
  (tSeq (tAsg (tCall (sp_turned_rest_of K) [] E0 (tCons (tVar 6) tNil)) (gTup K 2 (gCons (gName 7) (gCons (gName 8) gNil))))
  (tSeq (tDrop (tBM K "list" rAppend (tVar 3) (tCons (tVar 7) tNil)))
  (tDrop (tBM K "list" rAppend (tVar 4) (tCons (tTup (tCons (tVar 5) (tCons (tVar 8) tNil))) tNil))))))
def t_chain_of (K : PySem.W.Frag) : TS := (tSeq (tIfS (tTest (tOp rEq (tCall (sp_degree_of K) [] E0 (tCons (tVar 0) tNil)) (tC (.int 0)))) (tRet (tC .non)) tNext)
  (tSeq (tAsg (tCall (sp_slope K) [] E0 (tCons (tC (.int 0)) (tCons (tVar 0) tNil))) (gName 1))
  (tSeq (tAsg (tCall (sp_common_part K) [] E0 (tCons (tC (.int 0)) (tCons (tVar 0) (tCons (tVar 1) tNil)))) (gName 2))
  (tSeq (tAsg (tLst (tCons (tCall (sp_over_poly K) [] E0 (tCons (tC (.int 0)) (tCons (tVar 0) (tCons (tVar 2) tNil)))) (tCons (tCall (sp_over_poly K) [] E0 (tCons (tC (.int 0)) (tCons (tVar 1) (tCons (tVar 2) tNil)))) tNil))) (gName 3))
  (tSeq (tAsg (tLst tNil) (gName 4))
  (tSeq (tWhile (t_chain_of_w1_c K) (t_chain_of_w1_b K))
  (tRet (tTup (tCons (tVar 2) (tCons (tVar 3) (tCons (tVar 4) tNil)))))))))))
theorem sqT_put {K : PySem.W.Frag} {H : Hp} {L a : Addr} {xs zs : List V} {o : HO} (h : SqT K H a xs) (hL : H L = some (.lst zs)) : SqT K (upd H L o) a xs := by
  have key : ∀ {u : HO}, (∀ ys, u ≠ .lst ys) → H a = some u → upd H L o a = some u := fun {u} hu h => by
    rw [upd_ne (fun e => by rw [e, hL] at h; cases h; exact hu _ rfl)]
    exact h
  rcases h with (h | ⟨u, h⟩) | h
  · exact .inl (.inl (key (fun _ e => by cases e) h))
  · exact .inl (.inr ⟨u, key (fun _ e => by cases e) h⟩)
  · exact .inr h
theorem InQ.put {K : PySem.W.Frag} {H : Hp} {L : Addr} {v : V} {p : Ip} {zs : List V} {o : HO} (h : InQ K H v p) (hL : H L = some (.lst zs)) : InQ K (upd H L o) v p := by
  obtain ⟨a, t, e, h, c, e2, h2⟩ := h
  exact ⟨a, t, e, sqT_put h hL, c, e2, sqT_put h2 hL⟩
theorem RowQ.put {K : PySem.W.Frag} {H : Hp} {L : Addr} {xs : List V} {ps : List Ip} {zs : List V} {o : HO} (h : RowQ K H xs ps) (hL : H L = some (.lst zs)) : RowQ K (upd H L o) xs ps := ⟨h.1, fun i x p a b => InQ.put (h.2 i x p a b) hL⟩
theorem StepV.put {K : PySem.W.Frag} {H : Hp} {L : Addr} {v : V} {zs : List V} {o : HO} (h : StepV K H v) (hL : H L = some (.lst zs)) : StepV K (upd H L o) v := by
  obtain ⟨a, x, y, p, e, h, i, ok⟩ := h
  exact ⟨a, x, y, p, e, by rw [upd_ne (fun e => by rw [e, hL] at h; cases h)]; exact h, i.put hL, ok⟩
theorem RowQ.snoc {K : PySem.W.Frag} {H : Hp} {xs : List V} {ps : List Ip} {x : V} {p : Ip} (h : RowQ K H xs ps) (hx : InQ K H x p) : RowQ K H (xs ++ [x]) (ps ++ [p]) := by
  refine ⟨by simp [h.1], fun i y q hy hq => ?_⟩
  by_cases hi : i < xs.length
  · rw [List.getElem?_append_left hi] at hy
    rw [List.getElem?_append_left (by rw [← h.1]; exact hi)] at hq
    exact h.2 i y q hy hq
  · have h1 := (List.getElem?_eq_some_iff.mp hy).1
    rw [List.length_append, List.length_singleton] at h1
    obtain rfl : i = xs.length := by omega
    rw [List.getElem?_append_right (Nat.le_refl _), Nat.sub_self] at hy
    rw [List.getElem?_append_right (by rw [h.1]; exact Nat.le_refl _), h.1, Nat.sub_self] at hq
    cases hy
    cases hq
    exact hx
theorem atI_last2 {α : Type} (xs : List α) (u v : α) : L2.atI (xs ++ [u, v]) (-2) = some u := by
  have hl : (xs ++ [u, v]).length = xs.length + 2 := by simp
  have e : L2.ixN (xs ++ [u, v]).length (-2) = some xs.length := by
    unfold L2.ixN
    rw [hl, if_neg (by decide), if_pos (by omega)]
    congr 1
    omega
  unfold L2.atI
  rw [e]
  show (xs ++ [u, v])[xs.length]? = some u
  simp
theorem atI_last1 {α : Type} (xs : List α) (u v : α) : L2.atI (xs ++ [u, v]) (-1) = some v := by
  rw [show xs ++ [u, v] = (xs ++ [u]) ++ [v] by simp]
  exact L2.atI_last _ _
theorem pure_chain_of (K : PySem.W.Frag) (vs : List V) (H : Hp) (Q : VK) (E : XK) (h : sp_chain_of K vs H Q E) : t_chain_of K { nx := fun _ H' => Q .non H', rt := Q } (start ["inner", "change", "common", "row", "steps", "often", "rest", "later", "divisor"] vs) H := by
  obtain ⟨v, ⟨ns, b⟩, rfl, hv, h⟩ := h
  unfold t_chain_of
  walk_at "z"
  refine ⟨v, ns, b, rfl, hv, ?_⟩
  walk_at "z"
  rcases h with ⟨h1, hq⟩ | ⟨hB, hq⟩
  · have h1 : ns.length = 1 := h1
    rw [if_pos (by omega)]
    exact hq
  · have hB0 := hB
    simp only [chainB, Bool.and_eq_true, decide_eq_true_eq] at hB
    obtain ⟨⟨⟨⟨⟨⟨⟨⟨okp, hl⟩, oks⟩, hcB⟩, okc⟩, cne⟩, d1⟩, d2⟩, hG⟩ := hB
    rw [if_neg (by have : 1 < ns.length := hl; omega)]
    refine ⟨v, (ns, b), rfl, hv, okp, fun s H1 s1 hs => ?_⟩
    walk_at "z"
    refine ⟨v, s, (ns, b), _, rfl, InQ.same hv s1, hs, hcB, fun c H2 s2 hc => ?_⟩
    walk_at "z"
    refine ⟨v, c, (ns, b), _, rfl, InQ.same hv (s1.trans s2), hc, d1, fun x0 H3 s3 hx0 => ?_⟩
    refine ⟨s, c, _, _, rfl, hs.same (s2.trans s3), hc.same s3, d2, fun x1 H4 s4 hx1 => ?_⟩
    have hx0 := hx0.same s4
    have hc := hc.same (s3.trans s4)
    refine ⟨by decide, fun A hA => ?_⟩
    have f1 := same_upd (o := .lst [x0, x1]) hA
    have e1 : upd H4 A (.lst [x0, x1]) A = some (.lst [x0, x1]) := upd_same
    generalize upd H4 A (.lst [x0, x1]) = G1 at *
    walk_at "z"
    refine ⟨by decide, fun S hS => ?_⟩
    have f2 := same_upd (o := .lst []) hS
    have e2 : upd G1 S (.lst []) S = some (.lst []) := upd_same
    have nAS : A ≠ S := fun e => by rw [e, hS] at e1; cases e1
    have e1 := f2 _ _ e1
    have hS4 : H4 S = none := none_back f1 hS
    have s04 : Same H H4 := ((s1.trans s2).trans s3).trans s4
    have f12 := f1.trans f2
    generalize upd G1 S (.lst []) = G2 at *
    walk_at "z"
    refine while_of (fun μ σ H' => ∃ ys x y ss ps r a o5 o6 o7 o8, σ = [some v, some s, some c, some (.ref A), some (.ref S), o5, o6, o7, o8] ∧ Same H4 H' ∧ H' A = some (.lst (ys ++ [x, y])) ∧ H' S = some (.lst ss) ∧ RowQ K H' ys ps ∧ InQ K H' x r ∧ InQ K H' y a ∧ ys.length = ss.length ∧ ss.length + μ = 30 ∧ (∀ z ∈ ss, StepV K H' z) ∧ chainGB μ r a = true ∧ ps ++ r :: a :: chainGo μ r a = chainRow (ns, b))
      30 ⟨[], x0, x1, [], [], _, _, _, _, _, _, rfl, f12, e1, e2, ⟨rfl, fun i x p h _ => (by cases h)⟩, hx0.same f12, hx1.same f12, rfl, rfl, fun z h => (by cases h), hG, rfl⟩ ?_
    rintro μ σ H' ⟨ys, x, y, ss, ps, r, a, o5, o6, o7, o8, rfl, s5, hA5, hS5, hr, hx, hy, l1, l2, hss, hG, hC⟩ N hN hN2
    unfold t_chain_of_w1_c t_chain_of_w1_b
    walk_at "z"
    refine ixL (sqL_of hA5) (v := y) (atI_last1 _ _ _) ?_
    refine ⟨y, a.1, a.2, rfl, hy, ?_⟩
    cases μ with
    | zero => cases hG
    | succ k =>
      simp only [chainGB, Bool.and_eq_true, decide_eq_true_eq] at hG
      obtain ⟨⟨⟨okr, oka⟩, ane⟩, hG⟩ := hG
      rw [chainGo] at hC
      walk_at "z"
      by_cases hle : a.1.length ≤ 1
      · rw [if_pos hle] at hC
        rw [if_neg (by omega)]
        walk_at "z"
        refine ⟨by decide, fun T hT => ?_⟩
        have s6 := same_upd (o := .tup [c, V.ref A, V.ref S]) hT
        refine hq _ _ (s04.trans (s5.trans s6)) ⟨T, c, A, S, _, _, rfl, upd_same, (hc.same s5).same s6, s6 _ _ hA5, ?_, s6 _ _ hS5, by omega, fun z hz => (hss z hz).same s6⟩
        rw [← hC]
        have := (hr.snoc hx).snoc hy
        rw [List.append_assoc, List.append_assoc] at this
        exact this.same s6
      · rw [if_neg hle] at hC hG
        rw [if_pos (by omega)]
        simp only [Bool.and_eq_true, decide_eq_true_eq] at hG
        obtain ⟨⟨⟨⟨dok, ok1⟩, ok2⟩, rne⟩, hG⟩ := hG
        refine ⟨N, hN2, ?_⟩
        walk_at "z"
        refine ixL (sqL_of hA5) (v := x) (atI_last2 _ _ _) ?_
        refine ixL (sqL_of hA5) (v := y) (atI_last1 _ _ _) ?_
        refine ⟨x, y, r, a, rfl, hx, hy, dok, fun t q u H6 s6 ht hqt hu => ?_⟩
        refine ⟨t, _, rfl, sqT_of ht, rfl, ?_⟩
        walk_at "z"
        refine ⟨u, _, rfl, hu, ok2, rne, fun t2 z w H7 s7 ht2 hz => ?_⟩
        refine ⟨t2, _, rfl, sqT_of ht2, rfl, ?_⟩
        walk_at "z"
        have s57 := s6.trans s7
        have hA7 := s57 _ _ hA5
        refine ⟨tyL hA7, A, _, z, rfl, rfl, hA7, ?_, ?_⟩
        · rw [List.length_append, sizeLine_eq]; simp; omega
        have p8 : ∀ {v : V} {p : Ip}, InQ K H7 v p → InQ K (upd H7 A (.lst (ys ++ [x, y] ++ [z]))) v p := fun h => h.put hA7
        have p8r := (hr.same s57).put (o := .lst (ys ++ [x, y] ++ [z])) hA7
        have p8s : ∀ w ∈ ss, StepV K (upd H7 A (.lst (ys ++ [x, y] ++ [z]))) w := fun w hw => ((hss w hw).same s57).put hA7
        have s8 : Same H4 (upd H7 A (.lst (ys ++ [x, y] ++ [z]))) := same_mutD (s5.trans s57) hA
        have hA8 : upd H7 A (.lst (ys ++ [x, y] ++ [z])) A = some (.lst (ys ++ [x, y] ++ [z])) := upd_same
        have hS8 : upd H7 A (.lst (ys ++ [x, y] ++ [z])) S = some (.lst ss) := by rw [upd_ne nAS.symm]; exact s57 _ _ hS5
        have hx8 := p8 (hx.same s57)
        have hy8 := p8 (hy.same s57)
        have hz8 := p8 hz
        have hq8 := p8 (hqt.same s7)
        clear p8
        generalize upd H7 A (.lst (ys ++ [x, y] ++ [z])) = H8 at *
        walk_at "z"
        refine ⟨tyL hS8, ?_⟩
        refine ⟨by decide, fun t3 ht3 => ?_⟩
        have s9 := same_upd (o := .tup [q, w]) ht3
        have et3 : upd H8 t3 (.tup [q, w]) t3 = some (.tup [q, w]) := upd_same
        generalize upd H8 t3 (.tup [q, w]) = H9 at *
        have hS9 := s9 _ _ hS8
        refine ⟨S, _, .ref t3, rfl, rfl, hS9, ?_, ?_⟩
        · rw [sizeLine_eq]; omega
        have hst : StepV K H9 (.ref t3) := ⟨t3, q, w, _, rfl, et3, hq8.same s9, ok1⟩
        refine hN k _ _ (Nat.lt_succ_self k) ⟨ys ++ [x], y, z, ss ++ [.ref t3], ps ++ [r], a, _, _, _, _, _, rfl, same_mutD (s8.trans s9) hS4, ?_, upd_same, ?_, (hy8.same s9).put hS9, (hz8.same s9).put hS9, by simp [l1], by simp; omega, fun z hz => ?_, hG, ?_⟩
        · rw [upd_ne nAS]
          rw [s9 _ _ hA8]
          simp
        · exact ((p8r.snoc hx8).same s9).put hS9
        · rcases List.mem_append.mp hz with hz | hz
          · exact ((p8s z hz).same s9).put hS9
          · rw [List.mem_singleton.mp hz]
            exact hst.put hS9
        · rw [← hC]
          simp
theorem ok_chain_of {P : Program} {w : World} {K : PySem.W.Frag} {mg : Str → Option Value} {base : Heap} (T : Tx K mg) : Okk P w K mg base 6 "chain_of" ["inner"] (sp_chain_of K) := by
  obtain ⟨fd_degree_of, F_degree_of, b_degree_of, g_degree_of, k_degree_of⟩ := ok_degree_of (P := P) (w := w) (base := base) T
  obtain ⟨fd_divided_by, F_divided_by, b_divided_by, g_divided_by, k_divided_by⟩ := ok_divided_by (P := P) (w := w) (base := base) T
  obtain ⟨fd_over_poly, F_over_poly, b_over_poly, g_over_poly, k_over_poly⟩ := ok_over_poly (P := P) (w := w) (base := base) T
  obtain ⟨fd_slope, F_slope, b_slope, g_slope, k_slope⟩ := ok_slope (P := P) (w := w) (base := base) T
  obtain ⟨fd_common_part, F_common_part, b_common_part, g_common_part, k_common_part⟩ := ok_common_part (P := P) (w := w) (base := base) T
  obtain ⟨fd_turned_rest_of, F_turned_rest_of, b_turned_rest_of, g_turned_rest_of, k_turned_rest_of⟩ := ok_turned_rest_of (P := P) (w := w) (base := base) T
  obtain ⟨fd, F⟩ := T.f_chain_of
  refine ⟨fd, F.ok sc_chain_of (fun vs H Q E h => len_chain_of h) (fun cdv A outer s H vs Q E hr h => ⟨t_chain_of K, PSs.nox ?_, pure_chain_of K vs H Q E h⟩), F.bindsN (fun _ _ _ _ _ _ us hl => match us, hl with | [_], _ => rfl), T.g_chain_of, F.kp⟩
  exact (pss_cons (ps_if (pt_cmpR op_eq (pe_call F_degree_of (hr.mono (by decide)) rfl g_degree_of k_degree_of b_degree_of .nil pass0 (pa_cons (pv 0) pa_nil)) pe_int (nomark _)) (pss_one (ps_ret pe_non)) pss_nil)
      (pss_cons (ps_set (i := 1) sc_chain_of.nd rfl (by first | exact Or.inl rfl | exact Or.inr rfl) (pe_call F_slope (hr.mono (by decide)) rfl g_slope k_slope b_slope .nil pass0 (pa_cons pe_int (pa_cons (pv 0) pa_nil))))
      (pss_cons (ps_set (i := 2) sc_chain_of.nd rfl (by first | exact Or.inl rfl | exact Or.inr rfl) (pe_call F_common_part (hr.mono (by decide)) rfl g_common_part k_common_part b_common_part .nil pass0 (pa_cons pe_int (pa_cons (pv 0) (pa_cons (pv 1) pa_nil)))))
      (pss_cons (ps_set (i := 3) sc_chain_of.nd rfl (by first | exact Or.inl rfl | exact Or.inr rfl) (pe_lst (pa_cons (pe_call F_over_poly (hr.mono (by decide)) rfl g_over_poly k_over_poly b_over_poly .nil pass0 (pa_cons pe_int (pa_cons (pv 0) (pa_cons (pv 2) pa_nil)))) (pa_cons (pe_call F_over_poly (hr.mono (by decide)) rfl g_over_poly k_over_poly b_over_poly .nil pass0 (pa_cons pe_int (pa_cons (pv 1) (pa_cons (pv 2) pa_nil)))) pa_nil))))
      (pss_cons (ps_set (i := 4) sc_chain_of.nd rfl (by first | exact Or.inl rfl | exact Or.inr rfl) (pe_lst pa_nil))
      (pss_cons (ps_while PassesOwn.never (pt_cmpR op_gt (pe_call F_degree_of (hr.mono (by decide)) rfl g_degree_of k_degree_of b_degree_of .nil pass0 (pa_cons (pe_ix ix_lt (pv 3) (pe_un un_neg pe_int) (fun _ _ => rfl)) pa_nil)) pe_int (nomark _)) (pss_cons (ps_asg (pe_call F_divided_by (hr.mono (by decide)) rfl g_divided_by k_divided_by b_divided_by .nil pass0 (pa_cons pe_int (pa_cons (pe_ix ix_lt (pv 3) (pe_un un_neg pe_int) (fun _ _ => rfl)) (pa_cons (pe_ix ix_lt (pv 3) (pe_un un_neg pe_int) (fun _ _ => rfl)) pa_nil)))) (pg_tup rfl (pgs_cons (pg_name (i := 5) sc_chain_of.nd rfl (by first | exact Or.inl rfl | exact Or.inr rfl)) (pgs_cons (pg_name (i := 6) sc_chain_of.nd rfl (by first | exact Or.inl rfl | exact Or.inr rfl)) pgs_nil))))
      (pss_cons (ps_asg (pe_call F_turned_rest_of (hr.mono (by decide)) rfl g_turned_rest_of k_turned_rest_of b_turned_rest_of .nil pass0 (pa_cons (pv 6) pa_nil)) (pg_tup rfl (pgs_cons (pg_name (i := 7) sc_chain_of.nd rfl (by first | exact Or.inl rfl | exact Or.inr rfl)) (pgs_cons (pg_name (i := 8) sc_chain_of.nd rfl (by first | exact Or.inl rfl | exact Or.inr rfl)) pgs_nil))))
      (pss_cons (ps_expr (pe_bm PySem.F.plainAttrs_list PySem.F.slot_list_append PySem.F.type_list_append mt_append (pv 3) (pa_cons (pv 7) pa_nil)))
      (pss_one (ps_expr (pe_bm PySem.F.plainAttrs_list PySem.F.slot_list_append PySem.F.type_list_append mt_append (pv 4) (pa_cons (pe_tup (pa_cons (pv 5) (pa_cons (pv 8) pa_nil))) pa_nil))))))))
      (pss_one (ps_ret (pe_tup (pa_cons (pv 2) (pa_cons (pv 3) (pa_cons (pv 4) pa_nil))))))))))))
/-! ### chain_paper -/
theorem sc_chain_paper : FnScope ["chain", "common", "row", "steps", "told", "often", "divisor"] ["chain"] (defScope s_chain_paper) := ⟨rfl, rfl, rfl, by decide +kernel, rfl, by decide +kernel, by decide +kernel⟩
def sp_chain_paper (K : PySem.W.Frag) : Sp := fun vs H Q _ => ∃ (v : V), vs = [v] ∧ (v = .non ∨ ∃ p, ChainV K H v p ∧ chainB p = true) ∧ ∀ x H', Same H H' → Q x H'
theorem len_chain_paper {K : PySem.W.Frag} {vs : List V} {H : Hp} {Q : VK} {E : XK} (h : sp_chain_paper K vs H Q E) : vs.length = ["chain"].length := by
  obtain ⟨_, rfl, _⟩ := h
  rfl
def t_chain_paper (K : PySem.W.Frag) : TS := (tSeq (tIfS (tB (tIsN (tVar 0))) (tRet (tTup tNil)) tNext)
  (tSeq (tAsg (tVar 0) (gTup K 3 (gCons (gName 1) (gCons (gName 2) (gCons (gName 3) gNil)))))
  (tSeq (tAsg (tCB (rTupOf K) (tCons (tLc (iList K (tVar 3)) (gTup K 2 (gCons (gName 5) (gCons (gName 6) gNil))) tYes (tTup (tCons (tCt K (.tuple [.int (1), .int (1)])) (tCons (tCall (sp_closed K) [] E0 (tCons (tC (.int 0)) (tCons (tVar 5) tNil))) (tCons (tVar 6) tNil)))) [5, 6]) tNil)) (gName 4))
  (tRet (tTup (tCons (tCall (sp_closed K) [] E0 (tCons (tC (.int 0)) (tCons (tVar 1) tNil))) (tCons (tCall (sp_closed_all K) [] E0 (tCons (tC (.int 0)) (tCons (tVar 2) tNil))) (tCons (tVar 4) tNil))))))))
theorem chainGB_ok : ∀ (k : Nat) (r a : Ip), chainGB k r a = true → ∀ p ∈ r :: a :: chainGo k r a, ipOk p = true
  | 0, r, a, h => by cases h
  | k + 1, r, a, h => by
    simp only [chainGB, Bool.and_eq_true, decide_eq_true_eq] at h
    obtain ⟨⟨⟨okr, oka⟩, ane⟩, hG⟩ := h
    intro p hp
    rw [chainGo] at hp
    by_cases hle : a.1.length ≤ 1
    · rw [if_pos hle] at hp
      simp only [List.mem_cons, List.not_mem_nil, or_false] at hp
      rcases hp with rfl | rfl <;> assumption
    · rw [if_neg hle] at hp hG
      simp only [Bool.and_eq_true, decide_eq_true_eq] at hG
      rcases List.mem_cons.mp hp with rfl | hp
      · exact okr
      · exact chainGB_ok k _ _ hG.2 p hp
theorem chainGo_len : ∀ (k : Nat) (r a : Ip), (chainGo k r a).length ≤ k
  | 0, _, _ => Nat.le_refl _
  | k + 1, r, a => by
    rw [chainGo]
    split
    · exact Nat.zero_le _
    · rw [List.length_cons]
      exact Nat.succ_le_succ (chainGo_len k _ _)
theorem ipOk_cl {p : Ip} (h : ipOk p = true) : p.1.length < 30 ∧ Sz 1500 p.2 ∧ p.2 ≠ 0 := ⟨ipOk_len h, ipOk_bot h⟩
theorem pure_chain_paper (K : PySem.W.Frag) (vs : List V) (H : Hp) (Q : VK) (E : XK) (h : sp_chain_paper K vs H Q E) : t_chain_paper K { nx := fun _ H' => Q .non H', rt := Q } (start ["chain", "common", "row", "steps", "told", "often", "divisor"] vs) H := by
  obtain ⟨v, rfl, hv, hq⟩ := h
  unfold t_chain_paper
  walk_at "z"
  rcases hv with rfl | ⟨p, ⟨T, c, A, S, xs, ss, rfl, hT, hc, hA, hr, hS, hl, hss⟩, hB⟩
  · rw [if_pos rfl]
    exact ⟨by decide, fun T hT => hq _ _ (same_upd hT)⟩
  · simp only [chainB, Bool.and_eq_true, decide_eq_true_eq] at hB
    obtain ⟨⟨⟨⟨⟨⟨⟨⟨okp, hln⟩, oks⟩, hcB⟩, okc⟩, cne⟩, d1⟩, d2⟩, hG⟩ := hB
    have hrow := chainGB_ok _ _ _ hG
    rw [if_neg (by simp)]
    refine ⟨T, _, rfl, sqT_of hT, rfl, ?_⟩
    walk_at "z"
    refine ⟨S, rfl, ⟨_, sqL_of hS⟩, lc_any (b := true) hS (by omega) (fun x H2 hx s Qo hQo => ?_) (fun D H2 zs s hz hzl => ?_)⟩
    · obtain ⟨a, u, w, q, rfl, ha, hu, ok⟩ := hss x hx
      refine ⟨a, _, rfl, sqT_of (s _ _ ha), rfl, ?_⟩
      walk_at "z"
      intro k hk
      refine ⟨0, u, q.1, q.2, rfl, hu.same s, by have := ipOk_len ok; omega, fun _ => ⟨(ipOk_bot ok).2, szU (ipOk_bot ok).1 (by decide)⟩, fun y H3 s3 _ _ => ?_⟩
      exact ⟨by decide, fun t ht => hQo _ _ (s3.trans (same_upd ht))⟩
    · refine ⟨D, zs, rfl, .inl ⟨sqL_of hz, fun t ht => ?_⟩⟩
      have s2 := s.trans (same_upd (o := .tup zs) ht)
      generalize upd H2 t (.tup zs) = H3 at *
      walk_at "z"
      refine ⟨0, c, _, _, rfl, hc.same s2, by have := ipOk_len okc; omega, fun _ => ⟨(ipOk_bot okc).2, szU (ipOk_bot okc).1 (by decide)⟩, fun y H4 s4 _ _ => ?_⟩
      refine ⟨A, xs, true, rfl, (s2.trans s4) _ _ hA, ?_, fun x hx => ?_, fun z H5 s5 => ?_⟩
      · have := chainGo_len 30 (divQ p (comOf p)).1 (divQ (slopeQ p) (comOf p)).1
        rw [hr.1]
        unfold chainRow
        simp only [List.length_cons]
        omega
      · obtain ⟨i, hi⟩ := List.mem_iff_getElem?.mp hx
        have hlt := (List.getElem?_eq_some_iff.mp hi).1
        rw [hr.1] at hlt
        have hp := List.getElem?_eq_getElem hlt
        exact ⟨_, (hr.2 i x _ hi hp).same (s2.trans s4), ipOk_cl (hrow _ (List.getElem_mem hlt))⟩
      · exact ⟨by decide, fun t2 ht2 => hq _ _ (((s2.trans s4).trans s5).trans (same_upd ht2))⟩
theorem ok_chain_paper {P : Program} {w : World} {K : PySem.W.Frag} {mg : Str → Option Value} {base : Heap} (T : Tx K mg) : Okk P w K mg base 6 "chain_paper" ["chain"] (sp_chain_paper K) := by
  obtain ⟨fd_closed, F_closed, b_closed, g_closed, k_closed⟩ := ok_closed (P := P) (w := w) (base := base) T
  obtain ⟨fd_closed_all, F_closed_all, b_closed_all, g_closed_all, k_closed_all⟩ := ok_closed_all (P := P) (w := w) (base := base) T
  obtain ⟨hc_ONE, hk_ONE⟩ := T.c_ONE
  have hf_tuple := T.n_tuple
  obtain ⟨fd, F⟩ := T.f_chain_paper
  refine ⟨fd, F.ok sc_chain_paper (fun vs H Q E h => len_chain_paper h) (fun cdv A outer s H vs Q E hr h => ⟨t_chain_paper K, PSs.nox ?_, pure_chain_paper K vs H Q E h⟩), F.bindsN (fun _ _ _ _ _ _ us hl => match us, hl with | [_], _ => rfl), T.g_chain_paper, F.kp⟩
  exact (pss_cons (ps_if (pt_cmp (pc_isN (pv 0))) (pss_one (ps_ret (pe_tup pa_nil))) pss_nil)
      (pss_cons (ps_asg (pv 0) (pg_tup rfl (pgs_cons (pg_name (i := 1) sc_chain_paper.nd rfl (by first | exact Or.inl rfl | exact Or.inr rfl)) (pgs_cons (pg_name (i := 2) sc_chain_paper.nd rfl (by first | exact Or.inl rfl | exact Or.inr rfl)) (pgs_cons (pg_name (i := 3) sc_chain_paper.nd rfl (by first | exact Or.inl rfl | exact Or.inr rfl)) pgs_nil)))))
      (pss_cons (ps_set (i := 4) sc_chain_paper.nd rfl (by first | exact Or.inl rfl | exact Or.inr rfl) (pe_callTy call_tuple_of (by rfl) hf_tuple (by decide +kernel) (pa_cons (pe_lc (own := [("often", 5), ("divisor", 6)]) (g := (gTup K 2 (gCons (gName 5) (gCons (gName 6) gNil)))) (tt := tYes) rfl sc_chain_paper.nd (pi_list (pv 3)) (blkOk_by (own := [("often", 5), ("divisor", 6)]) (N := ["chain", "common", "row", "steps", "told", "often", "divisor"]) (sc := defScope s_chain_paper) (by decide +kernel)) (fun _ _ _ _ _ => (pg_tup rfl (pgs_cons (pg_name (i := 5) sc_chain_paper.nd rfl (by first | exact Or.inl rfl | exact Or.inr rfl)) (pgs_cons (pg_name (i := 6) sc_chain_paper.nd rfl (by first | exact Or.inl rfl | exact Or.inr rfl)) pgs_nil)))) (fun _ _ _ _ _ => pts_nil) (fun _ _ _ _ _ => (pe_tup (pa_cons (pe_ct (pe_glob (v := .ref (He.ga K "ONE")) rfl hc_ONE rfl) hk_ONE) (pa_cons (pe_call F_closed (hr.mono (by decide)) rfl g_closed k_closed b_closed .nil pass0 (pa_cons pe_int (pa_cons (pv 5) pa_nil))) (pa_cons (pv 6) pa_nil)))))) pa_nil)))
      (pss_one (ps_ret (pe_tup (pa_cons (pe_call F_closed (hr.mono (by decide)) rfl g_closed k_closed b_closed .nil pass0 (pa_cons pe_int (pa_cons (pv 1) pa_nil))) (pa_cons (pe_call F_closed_all (hr.mono (by decide)) rfl g_closed_all k_closed_all b_closed_all .nil pass0 (pa_cons pe_int (pa_cons (pv 2) pa_nil))) (pa_cons (pv 4) pa_nil)))))))))
/-! ### check_alone -/
theorem sc_check_alone : FnScope ["chain", "low", "high", "many"] ["chain", "low", "high"] (defScope s_check_alone) := ⟨rfl, rfl, rfl, by decide +kernel, rfl, by decide +kernel, by decide +kernel⟩
/-- a chain, or none -/
def ChO (K : PySem.W.Frag) (H : Hp) (c : V) (p : Ip) : Prop := (p.1.length = 1 ∧ c = .non) ∨ (chainB p = true ∧ ChainV K H c p)
theorem ChO.same {K : PySem.W.Frag} {H H' : Hp} {c : V} {p : Ip} (h : ChO K H c p) (s : Same H H') : ChO K H' c p := h.imp id fun h => ⟨h.1, h.2.same s⟩
def rootsOk (p : Ip) (d e : PyData) : Bool := decide (p.1.length = 1) || (decide ((chainRow p).length < 40) && ((chainRow p).all fun p => signB p (endOf d)) && ((chainRow p).all fun p => signB p (endOf e)))
def rootsQ (p : Ip) (d e : PyData) : Int := if p.1.length = 1 then 0 else chQ (chainRow p) (endOf d) (-1) - chQ (chainRow p) (endOf e) 1
def RefR (K : PySem.W.Frag) (E : XK) (H : Hp) (n : Int) : Prop := ∀ p H', Same H H' → H' p = some (.tup [.str "roots", .int n]) → RaiseF K E H' "Refused" "reason" (.ref p)
theorem RefR.same {K : PySem.W.Frag} {E : XK} {H H' : Hp} {n : Int} (h : RefR K E H n) (s : Same H H') : RefR K E H' n := fun p H2 s2 hp => h p H2 (s.trans s2) hp
theorem chainB_len {p : Ip} (h : chainB p = true) : 1 < p.1.length := by
  simp only [chainB, Bool.and_eq_true, decide_eq_true_eq] at h
  exact h.1.1.1.1.1.1.1.2
/-- how many roots lie between -/
theorem ch_roots {K : PySem.W.Frag} {H : Hp} {c lo hi : V} {p : Ip} {d e : PyData} {Q : VK} {E : XK} (hc : ChO K H c p) (g1 : GoodE H lo d) (g2 : GoodE H hi e) (ok : rootsOk p d e = true) (q : ∀ H', Same H H' → Q (.int (rootsQ p d e)) H') : sp_roots_between K [c, lo, hi] H Q E := by
  refine ⟨c, lo, hi, _, _, rfl, g1.num.1, g2.num.1, ?_⟩
  rcases hc with ⟨h1, rfl⟩ | ⟨hB, hc⟩
  · have := q H (Same.refl _)
    unfold rootsQ at this
    rw [if_pos h1] at this
    exact .inl ⟨rfl, this⟩
  · have hl := chainB_len hB
    unfold rootsOk at ok
    rw [decide_eq_false (by omega), Bool.false_or] at ok
    simp only [Bool.and_eq_true, decide_eq_true_eq] at ok
    refine .inr ⟨p, hc, ok.1.1, ok.1.2, ok.2, fun H' s => ?_⟩
    have := q H' s
    unfold rootsQ at this
    rw [if_neg (by omega)] at this
    exact this
def sp_check_alone (K : PySem.W.Frag) : Sp := fun vs H Q E => ∃ (c lo hi : V) (p : Ip) (d e : PyData), vs = [c, lo, hi] ∧ ChO K H c p ∧ GoodE H lo d ∧ GoodE H hi e ∧ rootsOk p d e = true ∧ ((rootsQ p d e ≠ 1 ∧ RefR K E H (rootsQ p d e)) ∨ (rootsQ p d e = 1 ∧ ∀ H', Same H H' → Q .non H'))
theorem len_check_alone {K : PySem.W.Frag} {vs : List V} {H : Hp} {Q : VK} {E : XK} (h : sp_check_alone K vs H Q E) : vs.length = ["chain", "low", "high"].length := by
  obtain ⟨_, _, _, _, _, _, rfl, _⟩ := h
  rfl
def t_check_alone (K : PySem.W.Frag) (E : XK) : TS := (tSeq (tAsg (tCall (sp_roots_between K) [] E0 (tCons (tVar 0) (tCons (tVar 1) (tCons (tVar 2) tNil)))) (gName 3))
  (tIfS (tTest (tOp rNe (tVar 3) (tC (.int 1)))) (tRaise1 "reason" (He.ga K "Refused") (fun cls d _ H => E cls d H) (tCons (tTup (tCons (tC (.str "roots")) (tCons (tVar 3) tNil))) tNil)) tNext))
theorem pure_check_alone (K : PySem.W.Frag) (vs : List V) (H : Hp) (Q : VK) (E : XK) (h : sp_check_alone K vs H Q E) : t_check_alone K E { nx := fun _ H' => Q .non H', rt := Q } (start ["chain", "low", "high", "many"] vs) H := by
  obtain ⟨c, lo, hi, p, d, e, rfl, hc, g1, g2, ok, h⟩ := h
  unfold t_check_alone
  walk_at "z"
  refine ch_roots hc g1 g2 ok fun H1 s1 => ?_
  walk_at "z"
  rcases h with ⟨h1, hr⟩ | ⟨h1, hq⟩
  rotate_left
  · rw [if_neg (by simpa using h1)]
    exact hq _ s1
  rw [if_pos h1]
  refine ⟨by decide, fun T hT => ?_⟩
  refine ⟨_, rfl, fun dd hd => ?_⟩
  exact hr T _ (s1.trans (same_upd hT)) upd_same _ dd (Same.refl _) hd
theorem ok_check_alone {P : Program} {w : World} {K : PySem.W.Frag} {mg : Str → Option Value} {base : Heap} (T : Tx K mg) : OkkX P w K mg base 6 "check_alone" ["chain", "low", "high"] (sp_check_alone K) := by
  obtain ⟨fd_roots_between, F_roots_between, b_roots_between, g_roots_between, k_roots_between⟩ := ok_roots_between (P := P) (w := w) (base := base) T
  obtain ⟨fd, F⟩ := T.f_check_alone
  refine ⟨fd, F.ok sc_check_alone (fun vs H Q E h => len_check_alone h) (fun cdv A outer s H vs Q E hr h => ⟨t_check_alone K E, ?_, pure_check_alone K vs H Q E h⟩), F.bindsN (fun _ _ _ _ _ _ us hl => match us, hl with | [_, _, _], _ => rfl), T.g_check_alone, F.kp⟩
  exact (pss_cons (ps_set (i := 3) sc_check_alone.nd rfl (by first | exact Or.inl rfl | exact Or.inr rfl) (pe_call F_roots_between (hr.mono (by decide)) rfl g_roots_between k_roots_between b_roots_between .nil pass0 (pa_cons (pv 0) (pa_cons (pv 1) (pa_cons (pv 2) pa_nil)))))
      (pss_one (ps_if (pt_cmpR op_ne (pv 3) pe_int (nomark _)) (pss_one (ps_raise1 PySem.F.excBase_ArithmeticError PySem.F.store_ArithmeticError PySem.ZExc.fnOk_reason rfl T.x_Refused hr (takes_of rfl rfl rfl rfl) (pa_cons (pe_tup (pa_cons pe_str (pa_cons (pv 3) pa_nil))) pa_nil) rfl (by decide))) pss_nil)))
/-! ### half_with_root -/
theorem sc_half_with_root : FnScope ["chain", "low", "high", "half"] ["chain", "low", "high"] (defScope s_half_with_root) := ⟨rfl, rfl, rfl, by decide +kernel, rfl, by decide +kernel, by decide +kernel⟩
def sp_half_with_root (K : PySem.W.Frag) : Sp := fun _ _ _ _ => False
theorem len_half_with_root {K : PySem.W.Frag} {vs : List V} {H : Hp} {Q : VK} {E : XK} (h : sp_half_with_root K vs H Q E) : vs.length = ["chain", "low", "high"].length := h.elim
theorem ok_half_with_root {P : Program} {w : World} {K : PySem.W.Frag} {mg : Str → Option Value} {base : Heap} (T : Tx K mg) : Okk P w K mg base 6 "half_with_root" ["chain", "low", "high"] (sp_half_with_root K) := by
  obtain ⟨fd, F⟩ := T.f_half_with_root
  exact ⟨fd, F.ok sc_half_with_root (fun vs H Q E h => len_half_with_root h) (fun cdv A outer s H vs Q E hr h => h.elim), F.bindsN (fun _ _ _ _ _ _ us hl => match us, hl with | [_, _, _], _ => rfl), T.g_half_with_root, F.kp⟩
/-! ### inner_of -/
theorem sc_inner_of : FnScope ["ground", "poly"] ["ground", "poly"] (defScope s_inner_of) := ⟨rfl, rfl, rfl, by decide +kernel, rfl, by decide +kernel, by decide +kernel⟩
def innerL (ds : List PyData) (B : Int) : List Int := (qsOf ds).map fun q => q.1 * (B / q.2)
def sp_inner_of (K : PySem.W.Frag) : Sp := fun vs H Q E => ∃ (g : Int) (v : V) (d : PyData) (no : List Addr), vs = [.int g, v] ∧ Pl H no d v ∧ (∀ ds, d = .tuple ds → ds.length < 2 ^ 20) ∧ ((polyB g (some 12) (10 ^ 60) d = false ∧ Raise0 K E H "InvalidPoly") ∨
  ∃ ds, d = .tuple ds ∧ GroundV (.int g) ∧ polyB g (some 12) (10 ^ 60) d = true ∧ ∀ x B H', Same H H' → 1 ≤ B → (∀ q ∈ qsOf ds, q.2 ∣ B) → B ≤ prI ((qsOf ds).map (·.2)) → InP K H' x (innerL ds B) B → Q x H')
theorem len_inner_of {K : PySem.W.Frag} {vs : List V} {H : Hp} {Q : VK} {E : XK} (h : sp_inner_of K vs H Q E) : vs.length = ["ground", "poly"].length := by
  obtain ⟨_, _, _, _, rfl, _⟩ := h
  rfl
def t_inner_of (K : PySem.W.Frag) (E : XK) : TS := (tSeq (tDrop (tCall (sp_check_poly K) [] E (tCons (tVar 0) (tCons (tVar 1) tNil))))
  (tRet (tCall (sp_opened K) [] E0 (tCons (tVar 0) (tCons (tVar 1) tNil)))))
theorem row_of_poly {H : Hp} {no : List Addr} {ds : List PyData} {v : V} {g l : Int} (p : Pl H no (.tuple ds) v) (h : ds.all (numB g l) = true) : RowN H g v (qsOf ds) := by
  obtain ⟨a, xs, rfl, hT, hA⟩ := pl_tup p
  refine ⟨a, xs, rfl, hT, by rw [hA.1]; simp [qsOf], fun i x q hx hq => ?_⟩
  unfold qsOf at hq
  rw [List.getElem?_map] at hq
  obtain ⟨d, hd, rfl⟩ := Option.map_eq_some_iff.mp hq
  exact num_of_pl (hA.2 i x d hx hd) (List.all_eq_true.mp h d (List.mem_of_getElem? hd))
theorem poly_parts {g l : Int} {m : Option Int} {ds : List PyData} (h : polyB g m l (.tuple ds) = true) : lenOk m ds.length = true ∧ ds.all (numB g l) = true := by
  rw [polyB_t, Bool.and_eq_true, Bool.and_eq_true] at h
  exact h.1
theorem num_sz {g : Int} {d : PyData} (hg : 0 ≤ g ∧ g ≤ 9999) (h : numB g (10 ^ 60) d = true) : Sz 200 (topD d) ∧ Sz 200 (botD d) ∧ 1 ≤ botD d ∧ (g ≠ 0 → botD d = 1 ∧ 0 ≤ topD d ∧ topD d < g) := by
  have big : ∀ x : Int, -(10 ^ 60) < x → x < 10 ^ 60 → Sz 200 x := fun x h1 h2 => by
    have : x.natAbs < 10 ^ 60 := by omega
    exact Nat.lt_trans this (by decide)
  cases d with
  | int n =>
    unfold numB at h
    rw [decide_eq_true_eq] at h
    exact ⟨big n (by omega) (by omega), big 1 (by decide) (by decide), (by decide : (1 : Int) ≤ 1), fun _ => ⟨rfl, h.2⟩⟩
  | tuple ds =>
    unfold numB at h
    split at h
    · contradiction
    · rename_i x y e
      cases e
      rw [decide_eq_true_eq] at h
      exact ⟨big x h.2.1.1 h.2.1.2, big y h.2.2.1.1 h.2.2.1.2, h.2.2.2.1, fun hg => absurd h.1 hg⟩
    · cases h
  | _ => simp [numB] at h
theorem prI_sz {k : Nat} : ∀ {l : List Int}, (∀ n ∈ l, Sz k n) → Sz (k * l.length + 1) (prI l)
  | [], _ => by show (1 : Int).natAbs < 2 ^ 1; decide
  | n :: l, h => by
    have h1 := h n (by simp)
    have h2 := prI_sz (l := l) fun m hm => h m (by simp [hm])
    have := sz_mul h1 h2
    rw [List.length_cons, Nat.mul_succ, show k * l.length + k + 1 = k + (k * l.length + 1) by omega]
    exact this
theorem poly_sz {g : Int} {ds : List PyData} (hg : 0 ≤ g ∧ g ≤ 9999) (h : polyB g (some 12) (10 ^ 60) (.tuple ds) = true) : ds.length ≤ 13 ∧ Sz 2601 (prI ((qsOf ds).map (·.2))) ∧ (∀ q ∈ qsOf ds, Sz 200 q.1 ∧ 1 ≤ q.2 ∧ (g ≠ 0 → q.2 = 1 ∧ 0 ≤ q.1 ∧ q.1 < g)) := by
  obtain ⟨h1, h2⟩ := poly_parts h
  have hl : ds.length ≤ 13 := by
    have h1 : decide ((ds.length : Int) ≤ 12 + 1) = true := h1
    rw [decide_eq_true_eq] at h1
    omega
  have hq : ∀ q ∈ qsOf ds, Sz 200 q.1 ∧ Sz 200 q.2 ∧ 1 ≤ q.2 ∧ (g ≠ 0 → q.2 = 1 ∧ 0 ≤ q.1 ∧ q.1 < g) := fun q hq => by
    obtain ⟨d, hd, rfl⟩ := List.mem_map.mp hq
    exact num_sz hg (List.all_eq_true.mp h2 d hd)
  refine ⟨hl, ?_, fun q hq' => ⟨(hq q hq').1, (hq q hq').2.2⟩⟩
  have := prI_sz (k := 200) (l := (qsOf ds).map (·.2)) fun n hn => by
    obtain ⟨q, hq', rfl⟩ := List.mem_map.mp hn
    exact (hq q hq').2.1
  refine sz_mono this ?_
  simp [qsOf]
  omega
theorem pure_inner_of (K : PySem.W.Frag) (vs : List V) (H : Hp) (Q : VK) (E : XK) (h : sp_inner_of K vs H Q E) : t_inner_of K E { nx := fun _ H' => Q .non H', rt := Q } (start ["ground", "poly"] vs) H := by
  obtain ⟨g, v, d, no, rfl, p, hl, h⟩ := h
  unfold t_inner_of
  walk_at "z"
  refine ⟨g, v, d, no, rfl, p, hl, ?_⟩
  rcases h with ⟨h, q⟩ | ⟨ds, rfl, hg, h, q⟩
  · exact .inr ⟨h, q⟩
  · refine .inl ⟨h, fun H' s => ?_⟩
    obtain ⟨z1, z2, z3⟩ := poly_sz (ground_le hg) h
    refine ⟨g, v, qsOf ds, rfl, (row_of_poly p (poly_parts h).2).same s, by simp [qsOf]; omega, sz_mono z2 (by decide), fun q hq => sz_mono (z3 q hq).1 (by decide), fun x B H2 s2 hB hd hle hx => q x B H2 (s.trans s2) hB hd hle hx⟩
theorem ok_inner_of {P : Program} {w : World} {K : PySem.W.Frag} {mg : Str → Option Value} {base : Heap} (T : Tx K mg) : OkkX P w K mg base 7 "inner_of" ["ground", "poly"] (sp_inner_of K) := by
  obtain ⟨fd_opened, F_opened, b_opened, g_opened, k_opened⟩ := ok_opened (P := P) (w := w) (base := base) T
  obtain ⟨fd_check_poly, F_check_poly, b_check_poly, g_check_poly, k_check_poly⟩ := ok_check_poly (P := P) (w := w) (base := base) T
  obtain ⟨fd, F⟩ := T.f_inner_of
  refine ⟨fd, F.ok sc_inner_of (fun vs H Q E h => len_inner_of h) (fun cdv A outer s H vs Q E hr h => ⟨t_inner_of K E, ?_, pure_inner_of K vs H Q E h⟩), F.bindsN (fun _ _ _ _ _ _ us hl => match us, hl with | [_, _], _ => rfl), T.g_inner_of, F.kp⟩
  exact (pss_cons (ps_expr (pe_call F_check_poly (hr.mono (by decide)) rfl g_check_poly k_check_poly b_check_poly .nil (passes_call (takes_of rfl rfl rfl rfl) (fun _ _ _ _ h => h)) (pa_cons (pv 0) (pa_cons (pv 1) pa_nil))))
      (pss_one (ps_ret (pe_call F_opened (hr.mono (by decide)) rfl g_opened k_opened b_opened .nil pass0 (pa_cons (pv 0) (pa_cons (pv 1) pa_nil))))))
/-! ### common_paper -/
theorem sc_common_paper : FnScope ["inner", "further", "low", "high", "common", "chain", "shares"] ["inner", "further", "low", "high"] (defScope s_common_paper) := ⟨rfl, rfl, rfl, by decide +kernel, rfl, by decide +kernel, by decide +kernel⟩
def sp_common_paper (K : PySem.W.Frag) : Sp := fun _ _ _ _ => False
theorem len_common_paper {K : PySem.W.Frag} {vs : List V} {H : Hp} {Q : VK} {E : XK} (h : sp_common_paper K vs H Q E) : vs.length = ["inner", "further", "low", "high"].length := h.elim
theorem ok_common_paper {P : Program} {w : World} {K : PySem.W.Frag} {mg : Str → Option Value} {base : Heap} (T : Tx K mg) : Okk P w K mg base 7 "common_paper" ["inner", "further", "low", "high"] (sp_common_paper K) := by
  obtain ⟨fd, F⟩ := T.f_common_paper
  exact ⟨fd, F.ok sc_common_paper (fun vs H Q E h => len_common_paper h) (fun cdv A outer s H vs Q E hr h => h.elim), F.bindsN (fun _ _ _ _ _ _ us hl => match us, hl with | [_, _, _, _], _ => rfl), T.g_common_paper, F.kp⟩
/-! ### apart -/
theorem sc_apart : FnScope ["chain", "stretch", "later", "further"] ["chain", "stretch", "later", "further"] (defScope s_apart) := ⟨rfl, rfl, rfl, by decide +kernel, rfl, by decide +kernel, by decide +kernel⟩
def sp_apart (K : PySem.W.Frag) : Sp := fun _ _ _ _ => False
theorem len_apart {K : PySem.W.Frag} {vs : List V} {H : Hp} {Q : VK} {E : XK} (h : sp_apart K vs H Q E) : vs.length = ["chain", "stretch", "later", "further"].length := h.elim
theorem ok_apart {P : Program} {w : World} {K : PySem.W.Frag} {mg : Str → Option Value} {base : Heap} (T : Tx K mg) : Okk P w K mg base 7 "apart" ["chain", "stretch", "later", "further"] (sp_apart K) := by
  obtain ⟨fd, F⟩ := T.f_apart
  exact ⟨fd, F.ok sc_apart (fun vs H Q E h => len_apart h) (fun cdv A outer s H vs Q E hr h => h.elim), F.bindsN (fun _ _ _ _ _ _ us hl => match us, hl with | [_, _, _, _], _ => rfl), T.g_apart, F.kp⟩
/-! ### order_paper -/
theorem sc_order_paper : FnScope ["below", "high", "end", "above", "start", "first", "second", "at_high", "at_start"] ["below", "high", "end", "above", "start"] (defScope s_order_paper) := ⟨rfl, rfl, rfl, by decide +kernel, rfl, by decide +kernel, by decide +kernel⟩
def sp_order_paper (K : PySem.W.Frag) : Sp := fun _ _ _ _ => False
theorem len_order_paper {K : PySem.W.Frag} {vs : List V} {H : Hp} {Q : VK} {E : XK} (h : sp_order_paper K vs H Q E) : vs.length = ["below", "high", "end", "above", "start"].length := h.elim
theorem ok_order_paper {P : Program} {w : World} {K : PySem.W.Frag} {mg : Str → Option Value} {base : Heap} (T : Tx K mg) : Okk P w K mg base 7 "order_paper" ["below", "high", "end", "above", "start"] (sp_order_paper K) := by
  obtain ⟨fd, F⟩ := T.f_order_paper
  exact ⟨fd, F.ok sc_order_paper (fun vs H Q E h => len_order_paper h) (fun cdv A outer s H vs Q E hr h => h.elim), F.bindsN (fun _ _ _ _ _ _ us hl => match us, hl with | [_, _, _, _, _], _ => rfl), T.g_order_paper, F.kp⟩
/-! ### inner_other_than_0 -/
theorem sc_inner_other_than_0 : FnScope ["poly", "inner"] ["poly"] (defScope s_inner_other_than_0) := ⟨rfl, rfl, rfl, by decide +kernel, rfl, by decide +kernel, by decide +kernel⟩
/-- poly, being none -/
def BadQ (K : PySem.W.Frag) (E : XK) (H : Hp) (w : V) : Prop := ∃ (e : PyData) (no : List Addr), Pl H no e w ∧ (∀ ds, e = .tuple ds → ds.length < 2 ^ 20) ∧ polyB 0 (some 12) (10 ^ 60) e = false ∧ Raise0 K E H "InvalidPoly"
def GoodQ (H : Hp) (w : V) (ds : List PyData) : Prop := ∃ (no : List Addr), Pl H no (.tuple ds) w ∧ polyB 0 (some 12) (10 ^ 60) (.tuple ds) = true ∧ ∀ d ∈ ds, botD d = 1
/-- no poly, or 0 -/
def Bad0 (K : PySem.W.Frag) (E : XK) (H : Hp) (w : V) : Prop := BadQ K E H w ∨ (GoodQ H w [] ∧ Raise0 K E H "InvalidPoly")
section
variable {K : PySem.W.Frag} {E : XK} {H H' : Hp} {w : V} {ds : List PyData} {Q : VK}
theorem BadQ.same (h : BadQ K E H w) (s : Same H H') : BadQ K E H' w := by
  obtain ⟨e, no, p, l, b, r⟩ := h
  exact ⟨e, no, p.same s, l, b, r.same s⟩
theorem GoodQ.same (h : GoodQ H w ds) (s : Same H H') : GoodQ H' w ds := by
  obtain ⟨no, p, b, t⟩ := h
  exact ⟨no, p.same s, b, t⟩
theorem Bad0.same (h : Bad0 K E H w) (s : Same H H') : Bad0 K E H' w := h.imp (fun h => h.same s) fun h => ⟨h.1.same s, h.2.same s⟩
theorem ground0 : GroundV (.int 0) := ⟨0, rfl, by decide, by decide, .inl rfl⟩
theorem BadQ.inner (h : BadQ K E H w) : sp_inner_of K [.int 0, w] H Q E := by
  obtain ⟨e, no, p, l, b, r⟩ := h
  exact ⟨0, w, e, no, rfl, p, l, .inl ⟨b, r⟩⟩
theorem prI_ones : ∀ {l : List Int}, (∀ n ∈ l, n = 1) → prI l = 1
  | [], _ => rfl
  | n :: l, h => by rw [prI, h n (by simp), prI_ones (l := l) fun m hm => h m (by simp [hm])]; rfl
theorem inner_one {B : Int} (h : ∀ d ∈ ds, botD d = 1) (hB : 1 ≤ B) (hle : B ≤ prI ((qsOf ds).map (·.2))) : B = 1 ∧ innerL ds B = ds.map topD := by
  have e : prI ((qsOf ds).map (·.2)) = 1 := prI_ones fun n hn => by
    obtain ⟨q, hq, rfl⟩ := List.mem_map.mp hn
    obtain ⟨d, hd, rfl⟩ := List.mem_map.mp hq
    exact h d hd
  have hB2 : B = 1 := by omega
  subst hB2
  refine ⟨rfl, ?_⟩
  unfold innerL qsOf
  rw [List.map_map]
  refine List.map_congr_left fun d hd => ?_
  show topD d * (1 / botD d) = topD d
  rw [h d hd]
  simp
theorem GoodQ.inner (h : GoodQ H w ds) (q : ∀ x H', Same H H' → InQ K H' x (ds.map topD, 1) → Q x H') : sp_inner_of K [.int 0, w] H Q E := by
  obtain ⟨no, p, b, t⟩ := h
  have := (poly_sz (g := 0) ⟨by decide, by decide⟩ b).1
  refine ⟨0, w, _, no, rfl, p, fun es e => by cases e; omega, .inr ⟨ds, rfl, ground0, b, fun x B H' s hB _ hle hx => ?_⟩⟩
  obtain ⟨rfl, e⟩ := inner_one t hB hle
  rw [e] at hx
  exact q x H' s hx
end
def sp_inner_other_than_0 (K : PySem.W.Frag) : Sp := fun vs H Q E => ∃ (w : V), vs = [w] ∧ (Bad0 K E H w ∨ ∃ ds, GoodQ H w ds ∧ ds ≠ [] ∧ ∀ x H', Same H H' → InQ K H' x (ds.map topD, 1) → Q x H')
theorem len_inner_other_than_0 {K : PySem.W.Frag} {vs : List V} {H : Hp} {Q : VK} {E : XK} (h : sp_inner_other_than_0 K vs H Q E) : vs.length = ["poly"].length := by
  obtain ⟨_, rfl, _⟩ := h
  rfl
def t_inner_other_than_0 (K : PySem.W.Frag) (E : XK) : TS := (tSeq (tAsg (tCall (sp_inner_of K) [] E (tCons (tC (.int 0)) (tCons (tVar 0) tNil))) (gName 1))
  (tSeq (tIfS (tTest (tOp (rEqD K) (tVar 1) (tCt K (.tuple [.tuple [], .int (1)])))) (tRaise0 (He.ga K "InvalidPoly") (fun cls d _ H => E cls d H)) tNext)
  (tRet (tVar 1))))
theorem pure_inner_other_than_0 (K : PySem.W.Frag) (vs : List V) (H : Hp) (Q : VK) (E : XK) (h : sp_inner_other_than_0 K vs H Q E) : t_inner_other_than_0 K E { nx := fun _ H' => Q .non H', rt := Q } (start ["poly", "inner"] vs) H := by
  obtain ⟨w, rfl, h⟩ := h
  unfold t_inner_other_than_0
  walk_at "z"
  rcases h with (h | ⟨h, r⟩) | ⟨ds, h, n, hq⟩
  · exact h.inner
  · refine h.inner fun x H1 s1 hx => ?_
    walk_at "z"
    intro c hc
    refine in_eq hx (InP.of (ns := []) (hc H1)) ⟨_, rfl, ?_⟩
    rw [if_pos (by decide)]
    exact r _ s1
  · refine h.inner fun x H1 s1 hx => ?_
    walk_at "z"
    intro c hc
    refine in_eq hx (InP.of (ns := []) (hc H1)) ⟨_, rfl, ?_⟩
    rw [if_neg (by simp [n])]
    exact hq _ _ s1 hx
theorem ok_inner_other_than_0 {P : Program} {w : World} {K : PySem.W.Frag} {mg : Str → Option Value} {base : Heap} (T : Tx K mg) : OkkX P w K mg base 8 "inner_other_than_0" ["poly"] (sp_inner_other_than_0 K) := by
  obtain ⟨fd_inner_of, F_inner_of, b_inner_of, g_inner_of, k_inner_of⟩ := ok_inner_of (P := P) (w := w) (base := base) T
  obtain ⟨hc_NOTHING, hk_NOTHING⟩ := T.c_NOTHING
  obtain ⟨fd, F⟩ := T.f_inner_other_than_0
  refine ⟨fd, F.ok sc_inner_other_than_0 (fun vs H Q E h => len_inner_other_than_0 h) (fun cdv A outer s H vs Q E hr h => ⟨t_inner_other_than_0 K E, ?_, pure_inner_other_than_0 K vs H Q E h⟩), F.bindsN (fun _ _ _ _ _ _ us hl => match us, hl with | [_], _ => rfl), T.g_inner_other_than_0, F.kp⟩
  have hu64 := hu64_of hr
  exact (pss_cons (ps_set (i := 1) sc_inner_other_than_0.nd rfl (by first | exact Or.inl rfl | exact Or.inr rfl) (pe_call F_inner_of (hr.mono (by decide)) rfl g_inner_of k_inner_of b_inner_of .nil (passes_call (takes_of rfl rfl rfl rfl) (fun _ _ _ _ h => h)) (pa_cons pe_int (pa_cons (pv 0) pa_nil))))
      (pss_cons (ps_if (pt_cmpR (op_eqD hu64) (pv 1) (pe_ct (pe_glob (v := .ref (He.ga K "NOTHING")) rfl hc_NOTHING rfl) hk_NOTHING) (nomark _)) (pss_one (ps_raise0 rfl (takes_of rfl rfl rfl rfl) T.e_InvalidPoly.1 T.e_InvalidPoly.2 rfl (by decide))) pss_nil)
      (pss_one (ps_ret (pv 1)))))
/-! ### asked_chain -/
theorem sc_asked_chain : FnScope ["poly", "low", "high", "inner"] ["poly", "low", "high"] (defScope s_asked_chain) := ⟨rfl, rfl, rfl, by decide +kernel, rfl, by decide +kernel, by decide +kernel⟩
/-- what is asked is not well -/
def AskBad (K : PySem.W.Frag) (E : XK) (H : Hp) (v lo hi : V) : Prop := Bad0 K E H v ∨ (∃ ds, GoodQ H v ds ∧ ds ≠ [] ∧ (BadE K E H lo ∨ ∃ d, GoodE H lo d ∧ (BadE K E H hi ∨ ∃ e, GoodE H hi e ∧ strB (endOf d) (endOf e) = false ∧ Raise0 K E H "InvalidOperation")))
def AskOk (H : Hp) (v lo hi : V) (p : Ip) (d e : PyData) : Prop := ∃ ds, GoodQ H v ds ∧ ds ≠ [] ∧ p = (ds.map topD, 1) ∧ (p.1.length = 1 ∨ chainB p = true) ∧ GoodE H lo d ∧ GoodE H hi e ∧ strB (endOf d) (endOf e) = true
/-- the stretch is well, and not one root lies in it -/
def AskNot (K : PySem.W.Frag) (E : XK) (H : Hp) (v lo hi : V) : Prop := ∃ p d e, AskOk H v lo hi p d e ∧ rootsOk p d e = true ∧ rootsQ p d e ≠ 1 ∧ RefR K E H (rootsQ p d e)
section
variable {K : PySem.W.Frag} {E : XK} {H H' : Hp} {v lo hi : V} {Q : VK}
/-- the ends and the stretch, one of them being none -/
def EndsBad (K : PySem.W.Frag) (E : XK) (H : Hp) (lo hi : V) : Prop := BadE K E H lo ∨ ∃ d, GoodE H lo d ∧ (BadE K E H hi ∨ ∃ e, GoodE H hi e ∧ strB (endOf d) (endOf e) = false ∧ Raise0 K E H "InvalidOperation")
theorem EndsBad.same (h : EndsBad K E H lo hi) (s : Same H H') : EndsBad K E H' lo hi := by
  rcases h with h | ⟨d, g, h⟩
  · exact .inl (h.same s)
  · refine .inr ⟨d, g.same s, ?_⟩
    rcases h with h | ⟨e, g, b, r⟩
    · exact .inl (h.same s)
    · exact .inr ⟨e, g.same s, b, r.same s⟩
theorem EndsBad.go {Q : V → Hp → Prop} (h : EndsBad K E H lo hi) : sp_check_end K [lo] H (fun _ H1 => sp_check_end K [hi] H1 (fun _ H2 => sp_check_stretch K [lo, hi] H2 Q E) E) E := by
  rcases h with h | ⟨d, g, h⟩
  · exact ⟨lo, rfl, .inl h⟩
  · refine ⟨lo, rfl, .inr ⟨d, g, ?_⟩⟩
    rcases h with h | ⟨e, g2, b, r⟩
    · exact ⟨hi, rfl, .inl h⟩
    · exact ⟨hi, rfl, .inr ⟨e, g2, ⟨lo, hi, d, e, rfl, g, g2, .inr ⟨b, r⟩⟩⟩⟩
theorem ends_ok {d e : PyData} {Q : V → Hp → Prop} (g1 : GoodE H lo d) (g2 : GoodE H hi e) (b : strB (endOf d) (endOf e) = true) (q : ∀ H', Same H H' → Q .non H') : sp_check_end K [lo] H (fun _ H1 => sp_check_end K [hi] H1 (fun _ H2 => sp_check_stretch K [lo, hi] H2 Q E) E) E :=
  ⟨lo, rfl, .inr ⟨d, g1, ⟨hi, rfl, .inr ⟨e, g2, ⟨lo, hi, d, e, rfl, g1, g2, .inl ⟨b, q⟩⟩⟩⟩⟩⟩
theorem chain_go {p : Ip} {x : V} (hx : InQ K H x p) (h : p.1.length = 1 ∨ chainB p = true) (q : ∀ c H', Same H H' → ChO K H' c p → Q c H') : sp_chain_of K [x] H Q E := by
  refine ⟨x, p, rfl, hx, ?_⟩
  rcases h with h | h
  · exact .inl ⟨h, q _ _ (Same.refl _) (.inl ⟨h, rfl⟩)⟩
  · exact .inr ⟨h, fun c H' s hc => q c H' s (.inr ⟨h, hc⟩)⟩
end
def sp_asked_chain (K : PySem.W.Frag) : Sp := fun vs H Q E => ∃ (v lo hi : V), vs = [v, lo, hi] ∧ (AskBad K E H v lo hi ∨ ∃ p d e, AskOk H v lo hi p d e ∧ ∀ c H', Same H H' → ChO K H' c p → Q c H')
theorem len_asked_chain {K : PySem.W.Frag} {vs : List V} {H : Hp} {Q : VK} {E : XK} (h : sp_asked_chain K vs H Q E) : vs.length = ["poly", "low", "high"].length := by
  obtain ⟨_, _, _, rfl, _⟩ := h
  rfl
def t_asked_chain (K : PySem.W.Frag) (E : XK) : TS := (tSeq (tAsg (tCall (sp_inner_other_than_0 K) [] E (tCons (tVar 0) tNil)) (gName 3))
  (tSeq (tDrop (tCall (sp_check_end K) [] E (tCons (tVar 1) tNil)))
  (tSeq (tDrop (tCall (sp_check_end K) [] E (tCons (tVar 2) tNil)))
  (tSeq (tDrop (tCall (sp_check_stretch K) [] E (tCons (tVar 1) (tCons (tVar 2) tNil))))
  (tRet (tCall (sp_chain_of K) [] E0 (tCons (tVar 3) tNil)))))))
theorem pure_asked_chain (K : PySem.W.Frag) (vs : List V) (H : Hp) (Q : VK) (E : XK) (h : sp_asked_chain K vs H Q E) : t_asked_chain K E { nx := fun _ H' => Q .non H', rt := Q } (start ["poly", "low", "high", "inner"] vs) H := by
  obtain ⟨v, lo, hi, rfl, h⟩ := h
  unfold t_asked_chain
  walk_at "z"
  rcases h with (h | ⟨ds, g, n, h⟩) | ⟨p, d, e, ⟨ds, g, n, rfl, hp, g1, g2, b⟩, hq⟩
  · exact ⟨v, rfl, .inl h⟩
  · have h : EndsBad K E H lo hi := h
    exact ⟨v, rfl, .inr ⟨ds, g, n, fun x H1 s1 hx => (h.same s1).go⟩⟩
  · refine ⟨v, rfl, .inr ⟨ds, g, n, fun x H1 s1 hx => ends_ok (g1.same s1) (g2.same s1) b fun H2 s2 => ?_⟩⟩
    walk_at "z"
    exact chain_go (hx.same s2) hp fun c H3 s3 hc => hq c H3 ((s1.trans s2).trans s3) hc
theorem ok_asked_chain {P : Program} {w : World} {K : PySem.W.Frag} {mg : Str → Option Value} {base : Heap} (T : Tx K mg) : OkkX P w K mg base 9 "asked_chain" ["poly", "low", "high"] (sp_asked_chain K) := by
  obtain ⟨fd_inner_other_than_0, F_inner_other_than_0, b_inner_other_than_0, g_inner_other_than_0, k_inner_other_than_0⟩ := ok_inner_other_than_0 (P := P) (w := w) (base := base) T
  obtain ⟨fd_check_end, F_check_end, b_check_end, g_check_end, k_check_end⟩ := ok_check_end (P := P) (w := w) (base := base) T
  obtain ⟨fd_check_stretch, F_check_stretch, b_check_stretch, g_check_stretch, k_check_stretch⟩ := ok_check_stretch (P := P) (w := w) (base := base) T
  obtain ⟨fd_chain_of, F_chain_of, b_chain_of, g_chain_of, k_chain_of⟩ := ok_chain_of (P := P) (w := w) (base := base) T
  obtain ⟨fd, F⟩ := T.f_asked_chain
  refine ⟨fd, F.ok sc_asked_chain (fun vs H Q E h => len_asked_chain h) (fun cdv A outer s H vs Q E hr h => ⟨t_asked_chain K E, ?_, pure_asked_chain K vs H Q E h⟩), F.bindsN (fun _ _ _ _ _ _ us hl => match us, hl with | [_, _, _], _ => rfl), T.g_asked_chain, F.kp⟩
  exact (pss_cons (ps_set (i := 3) sc_asked_chain.nd rfl (by first | exact Or.inl rfl | exact Or.inr rfl) (pe_call F_inner_other_than_0 (hr.mono (by decide)) rfl g_inner_other_than_0 k_inner_other_than_0 b_inner_other_than_0 .nil (passes_call (takes_of rfl rfl rfl rfl) (fun _ _ _ _ h => h)) (pa_cons (pv 0) pa_nil)))
      (pss_cons (ps_expr (pe_call F_check_end (hr.mono (by decide)) rfl g_check_end k_check_end b_check_end .nil (passes_call (takes_of rfl rfl rfl rfl) (fun _ _ _ _ h => h)) (pa_cons (pv 1) pa_nil)))
      (pss_cons (ps_expr (pe_call F_check_end (hr.mono (by decide)) rfl g_check_end k_check_end b_check_end .nil (passes_call (takes_of rfl rfl rfl rfl) (fun _ _ _ _ h => h)) (pa_cons (pv 2) pa_nil)))
      (pss_cons (ps_expr (pe_call F_check_stretch (hr.mono (by decide)) rfl g_check_stretch k_check_stretch b_check_stretch .nil (passes_call (takes_of rfl rfl rfl rfl) (fun _ _ _ _ h => h)) (pa_cons (pv 1) (pa_cons (pv 2) pa_nil))))
      (pss_one (ps_ret (pe_call F_chain_of (hr.mono (by decide)) rfl g_chain_of k_chain_of b_chain_of .nil pass0 (pa_cons (pv 3) pa_nil))))))))
/-! ### sign_answer -/
theorem sc_sign_answer : FnScope ["one", "other", "low", "high", "inner", "further", "chain", "alone", "at_root", "clear", "start", "stop", "sign"] ["one", "other", "low", "high"] (defScope s_sign_answer) := ⟨rfl, rfl, rfl, by decide +kernel, rfl, by decide +kernel, by decide +kernel⟩
def sp_sign_answer (K : PySem.W.Frag) : Sp := fun vs H Q E => ∃ (v w lo hi : V), vs = [v, w, lo, hi] ∧ (Bad0 K E H v ∨ (∃ ds, GoodQ H v ds ∧ ds ≠ [] ∧ BadQ K E H w) ∨ (∃ es, GoodQ H w es ∧ (AskBad K E H v lo hi ∨ AskNot K E H v lo hi)))
theorem len_sign_answer {K : PySem.W.Frag} {vs : List V} {H : Hp} {Q : VK} {E : XK} (h : sp_sign_answer K vs H Q E) : vs.length = ["one", "other", "low", "high"].length := by
  obtain ⟨_, _, _, _, rfl, _⟩ := h
  rfl
def t_sign_answer_w1_c (K : PySem.W.Frag) (E : XK) : TT := (tTest (tOp rGtI (tCall (sp_roots_between K) [] E0 (tCons (tVar 9) (tCons (tVar 10) (tCons (tVar 11) tNil)))) (tC (.int 0))))
def t_sign_answer_w1_b (K : PySem.W.Frag) (E : XK) : TS := (tAsg (tCall (sp_half_with_root K) [] E0 (tCons (tVar 6) (tCons (tVar 10) (tCons (tVar 11) tNil)))) (gTup K 2 (gCons (gName 10) (gCons (gName 11) gNil))))
def t_sign_answer (K : PySem.W.Frag) (E : XK) : TS := (tSeq (tAsg (tCall (sp_inner_other_than_0 K) [] E (tCons (tVar 0) tNil)) (gName 4))
  (tSeq (tAsg (tCall (sp_inner_of K) [] E (tCons (tC (.int 0)) (tCons (tVar 1) tNil))) (gName 5))
  (tSeq (tDrop (tCall (sp_check_end K) [] E (tCons (tVar 2) tNil)))
  (tSeq (tDrop (tCall (sp_check_end K) [] E (tCons (tVar 3) tNil)))
  (tSeq (tDrop (tCall (sp_check_stretch K) [] E (tCons (tVar 2) (tCons (tVar 3) tNil))))
  (tSeq (tAsg (tCall (sp_chain_of K) [] E0 (tCons (tVar 4) tNil)) (gName 6))
  (tSeq (tDrop (tCall (sp_check_alone K) [] E (tCons (tVar 6) (tCons (tVar 2) (tCons (tVar 3) tNil)))))
  (tSeq (tAsg (tCall (sp_chain_paper K) [] E0 (tCons (tVar 6) tNil)) (gName 7))
  (tSeq (tAsg (tCall (sp_common_paper K) [] E0 (tCons (tVar 4) (tCons (tVar 5) (tCons (tVar 2) (tCons (tVar 3) tNil))))) (gName 8))
  (tSeq (tIfS (tB (tNotN (tVar 8))) (tRet (tTup (tCons (tTup (tCons (tC (.str "sign")) (tCons (tVar 0) (tCons (tVar 1) (tCons (tVar 2) (tCons (tVar 3) (tCons (tC (.int 0)) tNil))))))) (tCons (tOp (rCatA K) (tTup (tCons (tVar 7) tNil)) (tVar 8)) tNil)))) tNext)
  (tSeq (tAsg (tCall (sp_chain_of K) [] E0 (tCons (tVar 5) tNil)) (gName 9))
  (tSeq (tPar 10 11 (tCons (tVar 2) (tCons (tVar 3) tNil)))
  (tSeq (tIfS (tTest (tOp rGtI (tCall (sp_roots_between K) [] E0 (tCons (tVar 9) (tCons (tVar 10) (tCons (tVar 11) tNil)))) (tC (.int 0)))) (tAsg (tCall (sp_with_ends K) [] E0 (tCons (tVar 4) (tCons (tVar 10) (tCons (tVar 11) tNil)))) (gTup K 2 (gCons (gName 10) (gCons (gName 11) gNil)))) tNext)
  (tSeq (tWhile (t_sign_answer_w1_c K E) (t_sign_answer_w1_b K E))
  (tSeq (tAsg (tCall (sp_sign_at K) [] E0 (tCons (tVar 5) (tCons (tVar 11) (tCons (tC (.int 1)) tNil)))) (gName 12))
  (tRet (tTup (tCons (tTup (tCons (tC (.str "sign")) (tCons (tVar 0) (tCons (tVar 1) (tCons (tVar 2) (tCons (tVar 3) (tCons (tVar 12) tNil))))))) (tCons (tTup (tCons (tVar 7) (tCons (tVar 10) (tCons (tVar 11) (tCons (tVar 7) (tCons (tCall (sp_chain_paper K) [] E0 (tCons (tVar 9) tNil)) tNil)))))) tNil)))))))))))))))))))
theorem pure_sign_answer (K : PySem.W.Frag) (vs : List V) (H : Hp) (Q : VK) (E : XK) (h : sp_sign_answer K vs H Q E) : t_sign_answer K E { nx := fun _ H' => Q .non H', rt := Q } (start ["one", "other", "low", "high", "inner", "further", "chain", "alone", "at_root", "clear", "start", "stop", "sign"] vs) H := by
  obtain ⟨v, w, lo, hi, rfl, h⟩ := h
  unfold t_sign_answer
  walk_at "z"
  rcases h with h | ⟨ds, g, n, h⟩ | ⟨es, gw, (h | ⟨ds, g, n, h⟩) | ⟨p, d, e, ⟨ds, g, n, rfl, hp, g1, g2, b⟩, ok, n1, r⟩⟩
  · exact ⟨v, rfl, .inl h⟩
  · exact ⟨v, rfl, .inr ⟨ds, g, n, fun x H1 s1 hx => (h.same s1).inner⟩⟩
  · exact ⟨v, rfl, .inl h⟩
  · have h : EndsBad K E H lo hi := h
    exact ⟨v, rfl, .inr ⟨ds, g, n, fun x H1 s1 hx => (gw.same s1).inner fun y H2 s2 hy => ((h.same s1).same s2).go⟩⟩
  · refine ⟨v, rfl, .inr ⟨ds, g, n, fun x H1 s1 hx => (gw.same s1).inner fun y H2 s2 hy => ends_ok (g1.same (s1.trans s2)) (g2.same (s1.trans s2)) b fun H3 s3 => ?_⟩⟩
    walk_at "z"
    refine chain_go ((hx.same s2).same s3) hp fun c H4 s4 hc => ?_
    walk_at "z"
    have s14 := ((s1.trans s2).trans s3).trans s4
    exact ⟨c, lo, hi, _, d, e, rfl, hc, g1.same s14, g2.same s14, ok, .inl ⟨n1, r.same s14⟩⟩
theorem ok_sign_answer {P : Program} {w : World} {K : PySem.W.Frag} {mg : Str → Option Value} {base : Heap} (T : Tx K mg) : OkkX P w K mg base 9 "sign_answer" ["one", "other", "low", "high"] (sp_sign_answer K) := by
  obtain ⟨fd_inner_of, F_inner_of, b_inner_of, g_inner_of, k_inner_of⟩ := ok_inner_of (P := P) (w := w) (base := base) T
  obtain ⟨fd_sign_at, F_sign_at, b_sign_at, g_sign_at, k_sign_at⟩ := ok_sign_at (P := P) (w := w) (base := base) T
  obtain ⟨fd_inner_other_than_0, F_inner_other_than_0, b_inner_other_than_0, g_inner_other_than_0, k_inner_other_than_0⟩ := ok_inner_other_than_0 (P := P) (w := w) (base := base) T
  obtain ⟨fd_check_end, F_check_end, b_check_end, g_check_end, k_check_end⟩ := ok_check_end (P := P) (w := w) (base := base) T
  obtain ⟨fd_check_stretch, F_check_stretch, b_check_stretch, g_check_stretch, k_check_stretch⟩ := ok_check_stretch (P := P) (w := w) (base := base) T
  obtain ⟨fd_chain_of, F_chain_of, b_chain_of, g_chain_of, k_chain_of⟩ := ok_chain_of (P := P) (w := w) (base := base) T
  obtain ⟨fd_chain_paper, F_chain_paper, b_chain_paper, g_chain_paper, k_chain_paper⟩ := ok_chain_paper (P := P) (w := w) (base := base) T
  obtain ⟨fd_roots_between, F_roots_between, b_roots_between, g_roots_between, k_roots_between⟩ := ok_roots_between (P := P) (w := w) (base := base) T
  obtain ⟨fd_check_alone, F_check_alone, b_check_alone, g_check_alone, k_check_alone⟩ := ok_check_alone (P := P) (w := w) (base := base) T
  obtain ⟨fd_with_ends, F_with_ends, b_with_ends, g_with_ends, k_with_ends⟩ := ok_with_ends (P := P) (w := w) (base := base) T
  obtain ⟨fd_half_with_root, F_half_with_root, b_half_with_root, g_half_with_root, k_half_with_root⟩ := ok_half_with_root (P := P) (w := w) (base := base) T
  obtain ⟨fd_common_paper, F_common_paper, b_common_paper, g_common_paper, k_common_paper⟩ := ok_common_paper (P := P) (w := w) (base := base) T
  obtain ⟨fd, F⟩ := T.f_sign_answer
  refine ⟨fd, F.ok sc_sign_answer (fun vs H Q E h => len_sign_answer h) (fun cdv A outer s H vs Q E hr h => ⟨t_sign_answer K E, ?_, pure_sign_answer K vs H Q E h⟩), F.bindsN (fun _ _ _ _ _ _ us hl => match us, hl with | [_, _, _, _], _ => rfl), T.g_sign_answer, F.kp⟩
  exact (pss_cons (ps_set (i := 4) sc_sign_answer.nd rfl (by first | exact Or.inl rfl | exact Or.inr rfl) (pe_call F_inner_other_than_0 (hr.mono (by decide)) rfl g_inner_other_than_0 k_inner_other_than_0 b_inner_other_than_0 .nil (passes_call (takes_of rfl rfl rfl rfl) (fun _ _ _ _ h => h)) (pa_cons (pv 0) pa_nil)))
      (pss_cons (ps_set (i := 5) sc_sign_answer.nd rfl (by first | exact Or.inl rfl | exact Or.inr rfl) (pe_call F_inner_of (hr.mono (by decide)) rfl g_inner_of k_inner_of b_inner_of .nil (passes_call (takes_of rfl rfl rfl rfl) (fun _ _ _ _ h => h)) (pa_cons pe_int (pa_cons (pv 1) pa_nil))))
      (pss_cons (ps_expr (pe_call F_check_end (hr.mono (by decide)) rfl g_check_end k_check_end b_check_end .nil (passes_call (takes_of rfl rfl rfl rfl) (fun _ _ _ _ h => h)) (pa_cons (pv 2) pa_nil)))
      (pss_cons (ps_expr (pe_call F_check_end (hr.mono (by decide)) rfl g_check_end k_check_end b_check_end .nil (passes_call (takes_of rfl rfl rfl rfl) (fun _ _ _ _ h => h)) (pa_cons (pv 3) pa_nil)))
      (pss_cons (ps_expr (pe_call F_check_stretch (hr.mono (by decide)) rfl g_check_stretch k_check_stretch b_check_stretch .nil (passes_call (takes_of rfl rfl rfl rfl) (fun _ _ _ _ h => h)) (pa_cons (pv 2) (pa_cons (pv 3) pa_nil))))
      (pss_cons (ps_set (i := 6) sc_sign_answer.nd rfl (by first | exact Or.inl rfl | exact Or.inr rfl) (pe_call F_chain_of (hr.mono (by decide)) rfl g_chain_of k_chain_of b_chain_of .nil pass0 (pa_cons (pv 4) pa_nil)))
      (pss_cons (ps_expr (pe_call F_check_alone (hr.mono (by decide)) rfl g_check_alone k_check_alone b_check_alone .nil (passes_call (takes_of rfl rfl rfl rfl) (fun _ _ _ _ h => h)) (pa_cons (pv 6) (pa_cons (pv 2) (pa_cons (pv 3) pa_nil)))))
      (pss_cons (ps_set (i := 7) sc_sign_answer.nd rfl (by first | exact Or.inl rfl | exact Or.inr rfl) (pe_call F_chain_paper (hr.mono (by decide)) rfl g_chain_paper k_chain_paper b_chain_paper .nil pass0 (pa_cons (pv 6) pa_nil)))
      (pss_cons (ps_set (i := 8) sc_sign_answer.nd rfl (by first | exact Or.inl rfl | exact Or.inr rfl) (pe_call F_common_paper (hr.mono (by decide)) rfl g_common_paper k_common_paper b_common_paper .nil pass0 (pa_cons (pv 4) (pa_cons (pv 5) (pa_cons (pv 2) (pa_cons (pv 3) pa_nil))))))
      (pss_cons (ps_if (pt_cmp (pc_notN (pv 8))) (pss_one (ps_ret (pe_tup (pa_cons (pe_tup (pa_cons pe_str (pa_cons (pv 0) (pa_cons (pv 1) (pa_cons (pv 2) (pa_cons (pv 3) (pa_cons pe_int pa_nil))))))) (pa_cons (pe_op op_catA (pe_tup (pa_cons (pv 7) pa_nil)) (pv 8)) pa_nil))))) pss_nil)
      (pss_cons (ps_set (i := 9) sc_sign_answer.nd rfl (by first | exact Or.inl rfl | exact Or.inr rfl) (pe_call F_chain_of (hr.mono (by decide)) rfl g_chain_of k_chain_of b_chain_of .nil pass0 (pa_cons (pv 5) pa_nil)))
      (pss_cons (ps_par (i := 10) (j := 11) rfl sc_sign_answer.nd rfl rfl (by decide) rfl rfl (pa_cons (pv 2) (pa_cons (pv 3) pa_nil)) (by rfl))
      (pss_cons (ps_if (pt_cmpR op_gt (pe_call F_roots_between (hr.mono (by decide)) rfl g_roots_between k_roots_between b_roots_between .nil pass0 (pa_cons (pv 9) (pa_cons (pv 10) (pa_cons (pv 11) pa_nil)))) pe_int (nomark _)) (pss_one (ps_asg (pe_call F_with_ends (hr.mono (by decide)) rfl g_with_ends k_with_ends b_with_ends .nil pass0 (pa_cons (pv 4) (pa_cons (pv 10) (pa_cons (pv 11) pa_nil)))) (pg_tup rfl (pgs_cons (pg_name (i := 10) sc_sign_answer.nd rfl (by first | exact Or.inl rfl | exact Or.inr rfl)) (pgs_cons (pg_name (i := 11) sc_sign_answer.nd rfl (by first | exact Or.inl rfl | exact Or.inr rfl)) pgs_nil))))) pss_nil)
      (pss_cons (ps_while (passes_of rfl) (pt_cmpR op_gt (pe_call F_roots_between (hr.mono (by decide)) rfl g_roots_between k_roots_between b_roots_between .nil pass0 (pa_cons (pv 9) (pa_cons (pv 10) (pa_cons (pv 11) pa_nil)))) pe_int (nomark _)) (pss_one (ps_asg (pe_call F_half_with_root (hr.mono (by decide)) rfl g_half_with_root k_half_with_root b_half_with_root .nil pass0 (pa_cons (pv 6) (pa_cons (pv 10) (pa_cons (pv 11) pa_nil)))) (pg_tup rfl (pgs_cons (pg_name (i := 10) sc_sign_answer.nd rfl (by first | exact Or.inl rfl | exact Or.inr rfl)) (pgs_cons (pg_name (i := 11) sc_sign_answer.nd rfl (by first | exact Or.inl rfl | exact Or.inr rfl)) pgs_nil))))))
      (pss_cons (ps_set (i := 12) sc_sign_answer.nd rfl (by first | exact Or.inl rfl | exact Or.inr rfl) (pe_call F_sign_at (hr.mono (by decide)) rfl g_sign_at k_sign_at b_sign_at .nil pass0 (pa_cons (pv 5) (pa_cons (pv 11) (pa_cons pe_int pa_nil)))))
      (pss_one (ps_ret (pe_tup (pa_cons (pe_tup (pa_cons pe_str (pa_cons (pv 0) (pa_cons (pv 1) (pa_cons (pv 2) (pa_cons (pv 3) (pa_cons (pv 12) pa_nil))))))) (pa_cons (pe_tup (pa_cons (pv 7) (pa_cons (pv 10) (pa_cons (pv 11) (pa_cons (pv 7) (pa_cons (pe_call F_chain_paper (hr.mono (by decide)) rfl g_chain_paper k_chain_paper b_chain_paper .nil pass0 (pa_cons (pv 9) pa_nil)) pa_nil)))))) pa_nil))))))))))))))))))))
/-! ### root_order_answer -/
theorem sc_root_order_answer : FnScope ["one", "low", "high", "other", "start", "stop", "inner", "further", "chain", "later", "question", "both_low", "both_high", "same", "here", "there"] ["one", "low", "high", "other", "start", "stop"] (defScope s_root_order_answer) := ⟨rfl, rfl, rfl, by decide +kernel, rfl, by decide +kernel, by decide +kernel⟩
def sp_root_order_answer (K : PySem.W.Frag) : Sp := fun vs H Q E => ∃ (v lo hi w st sp : V), vs = [v, lo, hi, w, st, sp] ∧ (Bad0 K E H v ∨ ∃ ds, GoodQ H v ds ∧ ds ≠ [] ∧ (BadE K E H lo ∨ ∃ d, GoodE H lo d ∧ (BadE K E H hi ∨ ∃ e, GoodE H hi e ∧ (Bad0 K E H w ∨ ∃ es, GoodQ H w es ∧ es ≠ [] ∧
  (BadE K E H st ∨ ∃ f, GoodE H st f ∧ (BadE K E H sp ∨ ∃ g, GoodE H sp g ∧ ((strB (endOf d) (endOf e) = false ∧ Raise0 K E H "InvalidOperation") ∨ (strB (endOf d) (endOf e) = true ∧ ((strB (endOf f) (endOf g) = false ∧ Raise0 K E H "InvalidOperation") ∨
  (strB (endOf f) (endOf g) = true ∧ ((ds.map topD).length = 1 ∨ chainB (ds.map topD, 1) = true) ∧ ((es.map topD).length = 1 ∨ chainB (es.map topD, 1) = true) ∧ rootsOk (ds.map topD, 1) d e = true ∧ ((rootsQ (ds.map topD, 1) d e ≠ 1 ∧ RefR K E H (rootsQ (ds.map topD, 1) d e)) ∨ (rootsQ (ds.map topD, 1) d e = 1 ∧ rootsOk (es.map topD, 1) f g = true ∧ rootsQ (es.map topD, 1) f g ≠ 1 ∧ RefR K E H (rootsQ (es.map topD, 1) f g)))))))))))))
theorem len_root_order_answer {K : PySem.W.Frag} {vs : List V} {H : Hp} {Q : VK} {E : XK} (h : sp_root_order_answer K vs H Q E) : vs.length = ["one", "low", "high", "other", "start", "stop"].length := by
  obtain ⟨_, _, _, _, _, _, rfl, _⟩ := h
  rfl
def t_root_order_answer (K : PySem.W.Frag) (E : XK) : TS := (tSeq (tAsg (tCall (sp_inner_other_than_0 K) [] E (tCons (tVar 0) tNil)) (gName 6))
  (tSeq (tDrop (tCall (sp_check_end K) [] E (tCons (tVar 1) tNil)))
  (tSeq (tDrop (tCall (sp_check_end K) [] E (tCons (tVar 2) tNil)))
  (tSeq (tAsg (tCall (sp_inner_other_than_0 K) [] E (tCons (tVar 3) tNil)) (gName 7))
  (tSeq (tDrop (tCall (sp_check_end K) [] E (tCons (tVar 4) tNil)))
  (tSeq (tDrop (tCall (sp_check_end K) [] E (tCons (tVar 5) tNil)))
  (tSeq (tDrop (tCall (sp_check_stretch K) [] E (tCons (tVar 1) (tCons (tVar 2) tNil))))
  (tSeq (tDrop (tCall (sp_check_stretch K) [] E (tCons (tVar 4) (tCons (tVar 5) tNil))))
  (tSeq (tPar 8 9 (tCons (tCall (sp_chain_of K) [] E0 (tCons (tVar 6) tNil)) (tCons (tCall (sp_chain_of K) [] E0 (tCons (tVar 7) tNil)) tNil)))
  (tSeq (tDrop (tCall (sp_check_alone K) [] E (tCons (tVar 8) (tCons (tVar 1) (tCons (tVar 2) tNil)))))
  (tSeq (tDrop (tCall (sp_check_alone K) [] E (tCons (tVar 9) (tCons (tVar 4) (tCons (tVar 5) tNil)))))
  (tSeq (tAsg (tTup (tCons (tC (.str "root order")) (tCons (tVar 0) (tCons (tVar 1) (tCons (tVar 2) (tCons (tVar 3) (tCons (tVar 4) (tCons (tVar 5) tNil)))))))) (gName 10))
  (tSeq (tPar 11 12 (tCons (tCall (sp_later_of K) [] E0 (tCons (tVar 1) (tCons (tVar 4) tNil))) (tCons (tCall (sp_earlier_of K) [] E0 (tCons (tVar 2) (tCons (tVar 5) tNil))) tNil)))
  (tSeq (tIfS (tOr (tB (tIsN (tVar 11))) (tOr (tB (tIsN (tVar 12))) (tNot (tB (tCall (sp_is_at_most K) [] E0 (tCons (tVar 12) (tCons (tVar 11) tNil))))))) (tSeq (tAsg (tCall (sp_common_paper K) [] E0 (tCons (tVar 6) (tCons (tVar 7) (tCons (tVar 11) (tCons (tVar 12) tNil))))) (gName 13))
  (tIfS (tB (tNotN (tVar 13))) (tRet (tTup (tCons (tOp (rCatA K) (tVar 10) (tTup (tCons (tC (.int 0)) tNil))) (tCons (tOp (rCatA K) (tTup (tCons (tCall (sp_chain_paper K) [] E0 (tCons (tVar 8) tNil)) (tCons (tCall (sp_chain_paper K) [] E0 (tCons (tVar 9) tNil)) tNil))) (tVar 13)) tNil)))) tNext)) tNext)
  (tSeq (tAsg (tCall (sp_apart K) [] E0 (tCons (tVar 8) (tCons (tCall (sp_with_ends K) [] E0 (tCons (tVar 6) (tCons (tVar 1) (tCons (tVar 2) tNil)))) (tCons (tVar 9) (tCons (tCall (sp_with_ends K) [] E0 (tCons (tVar 7) (tCons (tVar 4) (tCons (tVar 5) tNil)))) tNil))))) (gTup K 2 (gCons (gName 14) (gCons (gName 15) gNil))))
  (tSeq (tIfS (tB (tCall (sp_is_at_most K) [] E0 (tCons (tOp (rIxA K) (tVar 14) (tC (.int 1))) (tCons (tOp (rIxA K) (tVar 15) (tC (.int 0))) tNil)))) (tRet (tTup (tCons (tOp (rCatA K) (tVar 10) (tTup (tCons (tUn rNeg (tC (.int 1))) tNil))) (tCons (tCall (sp_order_paper K) [] E0 (tCons (tVar 8) (tCons (tVar 2) (tCons (tOp (rIxA K) (tVar 14) (tC (.int 1))) (tCons (tVar 9) (tCons (tVar 4) tNil)))))) tNil)))) tNext)
  (tRet (tTup (tCons (tOp (rCatA K) (tVar 10) (tTup (tCons (tC (.int 1)) tNil))) (tCons (tCall (sp_order_paper K) [] E0 (tCons (tVar 9) (tCons (tVar 5) (tCons (tOp (rIxA K) (tVar 15) (tC (.int 1))) (tCons (tVar 8) (tCons (tVar 1) tNil)))))) tNil))))))))))))))))))))
theorem pure_root_order_answer (K : PySem.W.Frag) (vs : List V) (H : Hp) (Q : VK) (E : XK) (h : sp_root_order_answer K vs H Q E) : t_root_order_answer K E { nx := fun _ H' => Q .non H', rt := Q } (start ["one", "low", "high", "other", "start", "stop", "inner", "further", "chain", "later", "question", "both_low", "both_high", "same", "here", "there"] vs) H := by
  obtain ⟨v, lo, hi, w, st, sp, rfl, h⟩ := h
  unfold t_root_order_answer
  walk_at "z"
  rcases h with h | ⟨ds, gv, n, h⟩
  · exact ⟨v, rfl, .inl h⟩
  refine ⟨v, rfl, .inr ⟨ds, gv, n, fun x H1 s1 hx => ?_⟩⟩
  walk_at "z"
  rcases h with h | ⟨d, gd, h⟩
  · exact ⟨lo, rfl, .inl (h.same s1)⟩
  refine ⟨lo, rfl, .inr ⟨d, gd.same s1, ?_⟩⟩
  rcases h with h | ⟨e, ge, h⟩
  · exact ⟨hi, rfl, .inl (h.same s1)⟩
  refine ⟨hi, rfl, .inr ⟨e, ge.same s1, ?_⟩⟩
  rcases h with h | ⟨es, gw, n2, h⟩
  · exact ⟨w, rfl, .inl (h.same s1)⟩
  refine ⟨w, rfl, .inr ⟨es, gw.same s1, n2, fun y H2 s2 hy => ?_⟩⟩
  walk_at "z"
  have s12 := s1.trans s2
  rcases h with h | ⟨f, gf, h⟩
  · exact ⟨st, rfl, .inl (h.same s12)⟩
  refine ⟨st, rfl, .inr ⟨f, gf.same s12, ?_⟩⟩
  rcases h with h | ⟨g, gg, h⟩
  · exact ⟨sp, rfl, .inl (h.same s12)⟩
  refine ⟨sp, rfl, .inr ⟨g, gg.same s12, ?_⟩⟩
  rcases h with ⟨b, r⟩ | ⟨b, h⟩
  · exact ⟨lo, hi, d, e, rfl, gd.same s12, ge.same s12, .inr ⟨b, r.same s12⟩⟩
  refine ⟨lo, hi, d, e, rfl, gd.same s12, ge.same s12, .inl ⟨b, fun H3 s3 => ?_⟩⟩
  have s13 := s12.trans s3
  rcases h with ⟨b2, r⟩ | ⟨b2, hp, hp2, ok, hr⟩
  · exact ⟨st, sp, f, g, rfl, gf.same s13, gg.same s13, .inr ⟨b2, r.same s13⟩⟩
  refine ⟨st, sp, f, g, rfl, gf.same s13, gg.same s13, .inl ⟨b2, fun H4 s4 => ?_⟩⟩
  walk_at "z"
  refine chain_go (((hx.same s2).same s3).same s4) hp fun c H5 s5 hc => ?_
  refine chain_go (((hy.same s3).same s4).same s5) hp2 fun c2 H6 s6 hc2 => ?_
  walk_at "z"
  have s16 := ((s13.trans s4).trans s5).trans s6
  refine ⟨c, lo, hi, _, d, e, rfl, hc.same s6, gd.same s16, ge.same s16, ok, ?_⟩
  rcases hr with ⟨n1, r⟩ | ⟨n1, ok2, n2, r⟩
  · exact .inl ⟨n1, r.same s16⟩
  · refine .inr ⟨n1, fun H7 s7 => ?_⟩
    walk_at "z"
    have s17 := s16.trans s7
    exact ⟨c2, st, sp, _, f, g, rfl, hc2.same s7, gf.same s17, gg.same s17, ok2, .inl ⟨n2, r.same s17⟩⟩
theorem ok_root_order_answer {P : Program} {w : World} {K : PySem.W.Frag} {mg : Str → Option Value} {base : Heap} (T : Tx K mg) : OkkX P w K mg base 9 "root_order_answer" ["one", "low", "high", "other", "start", "stop"] (sp_root_order_answer K) := by
  obtain ⟨fd_is_at_most, F_is_at_most, b_is_at_most, g_is_at_most, k_is_at_most⟩ := ok_is_at_most (P := P) (w := w) (base := base) T
  obtain ⟨fd_later_of, F_later_of, b_later_of, g_later_of, k_later_of⟩ := ok_later_of (P := P) (w := w) (base := base) T
  obtain ⟨fd_earlier_of, F_earlier_of, b_earlier_of, g_earlier_of, k_earlier_of⟩ := ok_earlier_of (P := P) (w := w) (base := base) T
  obtain ⟨fd_inner_other_than_0, F_inner_other_than_0, b_inner_other_than_0, g_inner_other_than_0, k_inner_other_than_0⟩ := ok_inner_other_than_0 (P := P) (w := w) (base := base) T
  obtain ⟨fd_check_end, F_check_end, b_check_end, g_check_end, k_check_end⟩ := ok_check_end (P := P) (w := w) (base := base) T
  obtain ⟨fd_check_stretch, F_check_stretch, b_check_stretch, g_check_stretch, k_check_stretch⟩ := ok_check_stretch (P := P) (w := w) (base := base) T
  obtain ⟨fd_chain_of, F_chain_of, b_chain_of, g_chain_of, k_chain_of⟩ := ok_chain_of (P := P) (w := w) (base := base) T
  obtain ⟨fd_chain_paper, F_chain_paper, b_chain_paper, g_chain_paper, k_chain_paper⟩ := ok_chain_paper (P := P) (w := w) (base := base) T
  obtain ⟨fd_check_alone, F_check_alone, b_check_alone, g_check_alone, k_check_alone⟩ := ok_check_alone (P := P) (w := w) (base := base) T
  obtain ⟨fd_with_ends, F_with_ends, b_with_ends, g_with_ends, k_with_ends⟩ := ok_with_ends (P := P) (w := w) (base := base) T
  obtain ⟨fd_common_paper, F_common_paper, b_common_paper, g_common_paper, k_common_paper⟩ := ok_common_paper (P := P) (w := w) (base := base) T
  obtain ⟨fd_apart, F_apart, b_apart, g_apart, k_apart⟩ := ok_apart (P := P) (w := w) (base := base) T
  obtain ⟨fd_order_paper, F_order_paper, b_order_paper, g_order_paper, k_order_paper⟩ := ok_order_paper (P := P) (w := w) (base := base) T
  obtain ⟨fd, F⟩ := T.f_root_order_answer
  refine ⟨fd, F.ok sc_root_order_answer (fun vs H Q E h => len_root_order_answer h) (fun cdv A outer s H vs Q E hr h => ⟨t_root_order_answer K E, ?_, pure_root_order_answer K vs H Q E h⟩), F.bindsN (fun _ _ _ _ _ _ us hl => match us, hl with | [_, _, _, _, _, _], _ => rfl), T.g_root_order_answer, F.kp⟩
  exact (pss_cons (ps_set (i := 6) sc_root_order_answer.nd rfl (by first | exact Or.inl rfl | exact Or.inr rfl) (pe_call F_inner_other_than_0 (hr.mono (by decide)) rfl g_inner_other_than_0 k_inner_other_than_0 b_inner_other_than_0 .nil (passes_call (takes_of rfl rfl rfl rfl) (fun _ _ _ _ h => h)) (pa_cons (pv 0) pa_nil)))
      (pss_cons (ps_expr (pe_call F_check_end (hr.mono (by decide)) rfl g_check_end k_check_end b_check_end .nil (passes_call (takes_of rfl rfl rfl rfl) (fun _ _ _ _ h => h)) (pa_cons (pv 1) pa_nil)))
      (pss_cons (ps_expr (pe_call F_check_end (hr.mono (by decide)) rfl g_check_end k_check_end b_check_end .nil (passes_call (takes_of rfl rfl rfl rfl) (fun _ _ _ _ h => h)) (pa_cons (pv 2) pa_nil)))
      (pss_cons (ps_set (i := 7) sc_root_order_answer.nd rfl (by first | exact Or.inl rfl | exact Or.inr rfl) (pe_call F_inner_other_than_0 (hr.mono (by decide)) rfl g_inner_other_than_0 k_inner_other_than_0 b_inner_other_than_0 .nil (passes_call (takes_of rfl rfl rfl rfl) (fun _ _ _ _ h => h)) (pa_cons (pv 3) pa_nil)))
      (pss_cons (ps_expr (pe_call F_check_end (hr.mono (by decide)) rfl g_check_end k_check_end b_check_end .nil (passes_call (takes_of rfl rfl rfl rfl) (fun _ _ _ _ h => h)) (pa_cons (pv 4) pa_nil)))
      (pss_cons (ps_expr (pe_call F_check_end (hr.mono (by decide)) rfl g_check_end k_check_end b_check_end .nil (passes_call (takes_of rfl rfl rfl rfl) (fun _ _ _ _ h => h)) (pa_cons (pv 5) pa_nil)))
      (pss_cons (ps_expr (pe_call F_check_stretch (hr.mono (by decide)) rfl g_check_stretch k_check_stretch b_check_stretch .nil (passes_call (takes_of rfl rfl rfl rfl) (fun _ _ _ _ h => h)) (pa_cons (pv 1) (pa_cons (pv 2) pa_nil))))
      (pss_cons (ps_expr (pe_call F_check_stretch (hr.mono (by decide)) rfl g_check_stretch k_check_stretch b_check_stretch .nil (passes_call (takes_of rfl rfl rfl rfl) (fun _ _ _ _ h => h)) (pa_cons (pv 4) (pa_cons (pv 5) pa_nil))))
      (pss_cons (ps_par (i := 8) (j := 9) rfl sc_root_order_answer.nd rfl rfl (by decide) rfl rfl (pa_cons (pe_call F_chain_of (hr.mono (by decide)) rfl g_chain_of k_chain_of b_chain_of .nil pass0 (pa_cons (pv 6) pa_nil)) (pa_cons (pe_call F_chain_of (hr.mono (by decide)) rfl g_chain_of k_chain_of b_chain_of .nil pass0 (pa_cons (pv 7) pa_nil)) pa_nil)) (by rfl))
      (pss_cons (ps_expr (pe_call F_check_alone (hr.mono (by decide)) rfl g_check_alone k_check_alone b_check_alone .nil (passes_call (takes_of rfl rfl rfl rfl) (fun _ _ _ _ h => h)) (pa_cons (pv 8) (pa_cons (pv 1) (pa_cons (pv 2) pa_nil)))))
      (pss_cons (ps_expr (pe_call F_check_alone (hr.mono (by decide)) rfl g_check_alone k_check_alone b_check_alone .nil (passes_call (takes_of rfl rfl rfl rfl) (fun _ _ _ _ h => h)) (pa_cons (pv 9) (pa_cons (pv 4) (pa_cons (pv 5) pa_nil)))))
      (pss_cons (ps_set (i := 10) sc_root_order_answer.nd rfl (by first | exact Or.inl rfl | exact Or.inr rfl) (pe_tup (pa_cons pe_str (pa_cons (pv 0) (pa_cons (pv 1) (pa_cons (pv 2) (pa_cons (pv 3) (pa_cons (pv 4) (pa_cons (pv 5) pa_nil)))))))))
      (pss_cons (ps_par (i := 11) (j := 12) rfl sc_root_order_answer.nd rfl rfl (by decide) rfl rfl (pa_cons (pe_call F_later_of (hr.mono (by decide)) rfl g_later_of k_later_of b_later_of .nil pass0 (pa_cons (pv 1) (pa_cons (pv 4) pa_nil))) (pa_cons (pe_call F_earlier_of (hr.mono (by decide)) rfl g_earlier_of k_earlier_of b_earlier_of .nil pass0 (pa_cons (pv 2) (pa_cons (pv 5) pa_nil))) pa_nil)) (by rfl))
      (pss_cons (ps_if (PW.pt (pw_or (pt_cmp (pc_isN (pv 11))) (pw_or (pt_cmp (pc_isN (pv 12))) (pw_or1 (pt_not (pt_val (pe_call F_is_at_most (hr.mono (by decide)) rfl g_is_at_most k_is_at_most b_is_at_most .nil pass0 (pa_cons (pv 12) (pa_cons (pv 11) pa_nil))))))))) (pss_cons (ps_set (i := 13) sc_root_order_answer.nd rfl (by first | exact Or.inl rfl | exact Or.inr rfl) (pe_call F_common_paper (hr.mono (by decide)) rfl g_common_paper k_common_paper b_common_paper .nil pass0 (pa_cons (pv 6) (pa_cons (pv 7) (pa_cons (pv 11) (pa_cons (pv 12) pa_nil))))))
      (pss_one (ps_if (pt_cmp (pc_notN (pv 13))) (pss_one (ps_ret (pe_tup (pa_cons (pe_op op_catA (pv 10) (pe_tup (pa_cons pe_int pa_nil))) (pa_cons (pe_op op_catA (pe_tup (pa_cons (pe_call F_chain_paper (hr.mono (by decide)) rfl g_chain_paper k_chain_paper b_chain_paper .nil pass0 (pa_cons (pv 8) pa_nil)) (pa_cons (pe_call F_chain_paper (hr.mono (by decide)) rfl g_chain_paper k_chain_paper b_chain_paper .nil pass0 (pa_cons (pv 9) pa_nil)) pa_nil))) (pv 13)) pa_nil))))) pss_nil))) pss_nil)
      (pss_cons (ps_asg (pe_call F_apart (hr.mono (by decide)) rfl g_apart k_apart b_apart .nil pass0 (pa_cons (pv 8) (pa_cons (pe_call F_with_ends (hr.mono (by decide)) rfl g_with_ends k_with_ends b_with_ends .nil pass0 (pa_cons (pv 6) (pa_cons (pv 1) (pa_cons (pv 2) pa_nil)))) (pa_cons (pv 9) (pa_cons (pe_call F_with_ends (hr.mono (by decide)) rfl g_with_ends k_with_ends b_with_ends .nil pass0 (pa_cons (pv 7) (pa_cons (pv 4) (pa_cons (pv 5) pa_nil)))) pa_nil))))) (pg_tup rfl (pgs_cons (pg_name (i := 14) sc_root_order_answer.nd rfl (by first | exact Or.inl rfl | exact Or.inr rfl)) (pgs_cons (pg_name (i := 15) sc_root_order_answer.nd rfl (by first | exact Or.inl rfl | exact Or.inr rfl)) pgs_nil))))
      (pss_cons (ps_if (pt_val (pe_call F_is_at_most (hr.mono (by decide)) rfl g_is_at_most k_is_at_most b_is_at_most .nil pass0 (pa_cons (pe_ix ix_lt (pv 14) pe_int (fun _ _ => rfl)) (pa_cons (pe_ix ix_lt (pv 15) pe_int (fun _ _ => rfl)) pa_nil)))) (pss_one (ps_ret (pe_tup (pa_cons (pe_op op_catA (pv 10) (pe_tup (pa_cons (pe_un un_neg pe_int) pa_nil))) (pa_cons (pe_call F_order_paper (hr.mono (by decide)) rfl g_order_paper k_order_paper b_order_paper .nil pass0 (pa_cons (pv 8) (pa_cons (pv 2) (pa_cons (pe_ix ix_lt (pv 14) pe_int (fun _ _ => rfl)) (pa_cons (pv 9) (pa_cons (pv 4) pa_nil)))))) pa_nil))))) pss_nil)
      (pss_one (ps_ret (pe_tup (pa_cons (pe_op op_catA (pv 10) (pe_tup (pa_cons pe_int pa_nil))) (pa_cons (pe_call F_order_paper (hr.mono (by decide)) rfl g_order_paper k_order_paper b_order_paper .nil pass0 (pa_cons (pv 9) (pa_cons (pv 5) (pa_cons (pe_ix ix_lt (pv 15) pe_int (fun _ _ => rfl)) (pa_cons (pv 8) (pa_cons (pv 1) pa_nil)))))) pa_nil)))))))))))))))))))))
/-! ### root_stretches -/
theorem sc_root_stretches : FnScope ["poly", "inner", "chain", "bound", "low", "high", "waiting", "found", "more", "less", "half", "between"] ["poly"] (defScope s_root_stretches) := ⟨rfl, rfl, rfl, by decide +kernel, rfl, by decide +kernel, by decide +kernel⟩
def sp_root_stretches (K : PySem.W.Frag) : Sp := fun vs H Q E => ∃ (w : V), vs = [w] ∧ (Bad0 K E H w ∨ ∃ ds, GoodQ H w ds ∧ ds ≠ [] ∧ ds.length = 1 ∧ ∀ x H', Same H H' → Q x H')
theorem len_root_stretches {K : PySem.W.Frag} {vs : List V} {H : Hp} {Q : VK} {E : XK} (h : sp_root_stretches K vs H Q E) : vs.length = ["poly"].length := by
  obtain ⟨_, rfl, _⟩ := h
  rfl
def t_root_stretches_w1_c (K : PySem.W.Frag) (E : XK) : TT := (tB (tVar 6))
def t_root_stretches_w1_b (K : PySem.W.Frag) (E : XK) : TS := (tSeq (tAsg (tBM0 K "list" rPop (tVar 6)) (gTup K 4 (gCons (gName 4) (gCons (gName 5) (gCons (gName 8) (gCons (gName 9) gNil))))))
  (tIfS (tTest (tOp rEq (tOp rSub (tVar 8) (tVar 9)) (tC (.int 1)))) (tDrop (tBM K "list" rAppend (tVar 7) (tCons (tTup (tCons (tVar 4) (tCons (tVar 5) tNil))) tNil))) (tIfS (tTest (tOp rGtI (tOp rSub (tVar 8) (tVar 9)) (tC (.int 1)))) (tSeq (tAsg (tCall (sp_middle K) [] E0 (tCons (tVar 4) (tCons (tVar 5) tNil))) (gName 10))
  (tSeq (tAsg (tCall (sp_changes_at K) [] E0 (tCons (tOp (rIxA K) (tVar 2) (tC (.int 1))) (tCons (tVar 10) (tCons (tC (.int 1)) tNil)))) (gName 11))
  (tSeq (tDrop (tBM K "list" rAppend (tVar 6) (tCons (tTup (tCons (tVar 10) (tCons (tVar 5) (tCons (tVar 11) (tCons (tVar 9) tNil))))) tNil)))
  (tDrop (tBM K "list" rAppend (tVar 6) (tCons (tTup (tCons (tVar 4) (tCons (tVar 10) (tCons (tVar 8) (tCons (tVar 11) tNil))))) tNil)))))) tNext)))
def t_root_stretches (K : PySem.W.Frag) (E : XK) : TS := (tSeq (tAsg (tCall (sp_inner_other_than_0 K) [] E (tCons (tVar 0) tNil)) (gName 1))
  (tSeq (tAsg (tCall (sp_chain_of K) [] E0 (tCons (tVar 1) tNil)) (gName 2))
  (tSeq (tIfS (tB (tIsN (tVar 2))) (tRet (tTup tNil)) tNext)
  (tSeq (tAsg (tCall (sp_root_bound K) [] E0 (tCons (tVar 1) tNil)) (gName 3))
  (tSeq (tPar 4 5 (tCons (tTup (tCons (tUn rNeg (tVar 3)) (tCons (tC (.int 1)) tNil))) (tCons (tTup (tCons (tVar 3) (tCons (tC (.int 1)) tNil))) tNil)))
  (tSeq (tAsg (tLst (tCons (tTup (tCons (tVar 4) (tCons (tVar 5) (tCons (tCall (sp_changes_at K) [] E0 (tCons (tOp (rIxA K) (tVar 2) (tC (.int 1))) (tCons (tVar 4) (tCons (tUn rNeg (tC (.int 1))) tNil)))) (tCons (tCall (sp_changes_at K) [] E0 (tCons (tOp (rIxA K) (tVar 2) (tC (.int 1))) (tCons (tVar 5) (tCons (tC (.int 1)) tNil)))) tNil))))) tNil)) (gName 6))
  (tSeq (tAsg (tLst tNil) (gName 7))
  (tSeq (tWhile (t_root_stretches_w1_c K E) (t_root_stretches_w1_b K E))
  (tRet (tCB (rTupOf K) (tCons (tVar 7) tNil)))))))))))
theorem pure_root_stretches (K : PySem.W.Frag) (vs : List V) (H : Hp) (Q : VK) (E : XK) (h : sp_root_stretches K vs H Q E) : t_root_stretches K E { nx := fun _ H' => Q .non H', rt := Q } (start ["poly", "inner", "chain", "bound", "low", "high", "waiting", "found", "more", "less", "half", "between"] vs) H := by
  obtain ⟨w, rfl, h⟩ := h
  unfold t_root_stretches
  walk_at "z"
  rcases h with h | ⟨ds, g, n, h1, hq⟩
  · exact ⟨w, rfl, .inl h⟩
  refine ⟨w, rfl, .inr ⟨ds, g, n, fun x H1 s1 hx => ?_⟩⟩
  walk_at "z"
  refine ⟨x, _, rfl, hx, .inl ⟨by simpa using h1, ?_⟩⟩
  walk_at "z"
  exact ⟨by decide, fun T hT => hq _ _ (s1.trans (same_upd hT))⟩

theorem ok_root_stretches {P : Program} {w : World} {K : PySem.W.Frag} {mg : Str → Option Value} {base : Heap} (T : Tx K mg) : OkkX P w K mg base 9 "root_stretches" ["poly"] (sp_root_stretches K) := by
  obtain ⟨fd_changes_at, F_changes_at, b_changes_at, g_changes_at, k_changes_at⟩ := ok_changes_at (P := P) (w := w) (base := base) T
  obtain ⟨fd_inner_other_than_0, F_inner_other_than_0, b_inner_other_than_0, g_inner_other_than_0, k_inner_other_than_0⟩ := ok_inner_other_than_0 (P := P) (w := w) (base := base) T
  obtain ⟨fd_chain_of, F_chain_of, b_chain_of, g_chain_of, k_chain_of⟩ := ok_chain_of (P := P) (w := w) (base := base) T
  obtain ⟨fd_root_bound, F_root_bound, b_root_bound, g_root_bound, k_root_bound⟩ := ok_root_bound (P := P) (w := w) (base := base) T
  obtain ⟨fd_middle, F_middle, b_middle, g_middle, k_middle⟩ := ok_middle (P := P) (w := w) (base := base) T
  have hf_tuple := T.n_tuple
  obtain ⟨fd, F⟩ := T.f_root_stretches
  refine ⟨fd, F.ok sc_root_stretches (fun vs H Q E h => len_root_stretches h) (fun cdv A outer s H vs Q E hr h => ⟨t_root_stretches K E, ?_, pure_root_stretches K vs H Q E h⟩), F.bindsN (fun _ _ _ _ _ _ us hl => match us, hl with | [_], _ => rfl), T.g_root_stretches, F.kp⟩
  exact (pss_cons (ps_set (i := 1) sc_root_stretches.nd rfl (by first | exact Or.inl rfl | exact Or.inr rfl) (pe_call F_inner_other_than_0 (hr.mono (by decide)) rfl g_inner_other_than_0 k_inner_other_than_0 b_inner_other_than_0 .nil (passes_call (takes_of rfl rfl rfl rfl) (fun _ _ _ _ h => h)) (pa_cons (pv 0) pa_nil)))
      (pss_cons (ps_set (i := 2) sc_root_stretches.nd rfl (by first | exact Or.inl rfl | exact Or.inr rfl) (pe_call F_chain_of (hr.mono (by decide)) rfl g_chain_of k_chain_of b_chain_of .nil pass0 (pa_cons (pv 1) pa_nil)))
      (pss_cons (ps_if (pt_cmp (pc_isN (pv 2))) (pss_one (ps_ret (pe_tup pa_nil))) pss_nil)
      (pss_cons (ps_set (i := 3) sc_root_stretches.nd rfl (by first | exact Or.inl rfl | exact Or.inr rfl) (pe_call F_root_bound (hr.mono (by decide)) rfl g_root_bound k_root_bound b_root_bound .nil pass0 (pa_cons (pv 1) pa_nil)))
      (pss_cons (ps_par (i := 4) (j := 5) rfl sc_root_stretches.nd rfl rfl (by decide) rfl rfl (pa_cons (pe_tup (pa_cons (pe_un un_neg (pv 3)) (pa_cons pe_int pa_nil))) (pa_cons (pe_tup (pa_cons (pv 3) (pa_cons pe_int pa_nil))) pa_nil)) (by rfl))
      (pss_cons (ps_set (i := 6) sc_root_stretches.nd rfl (by first | exact Or.inl rfl | exact Or.inr rfl) (pe_lst (pa_cons (pe_tup (pa_cons (pv 4) (pa_cons (pv 5) (pa_cons (pe_call F_changes_at (hr.mono (by decide)) rfl g_changes_at k_changes_at b_changes_at .nil pass0 (pa_cons (pe_ix ix_lt (pv 2) pe_int (fun _ _ => rfl)) (pa_cons (pv 4) (pa_cons (pe_un un_neg pe_int) pa_nil)))) (pa_cons (pe_call F_changes_at (hr.mono (by decide)) rfl g_changes_at k_changes_at b_changes_at .nil pass0 (pa_cons (pe_ix ix_lt (pv 2) pe_int (fun _ _ => rfl)) (pa_cons (pv 5) (pa_cons pe_int pa_nil)))) pa_nil))))) pa_nil)))
      (pss_cons (ps_set (i := 7) sc_root_stretches.nd rfl (by first | exact Or.inl rfl | exact Or.inr rfl) (pe_lst pa_nil))
      (pss_cons (ps_while (passes_of rfl) (pt_val (pv 6)) (pss_cons (ps_asg (pe_bm0 PySem.F.plainAttrs_list PySem.F.slot_list_pop PySem.F.type_list_pop mt_pop (pv 6)) (pg_tup rfl (pgs_cons (pg_name (i := 4) sc_root_stretches.nd rfl (by first | exact Or.inl rfl | exact Or.inr rfl)) (pgs_cons (pg_name (i := 5) sc_root_stretches.nd rfl (by first | exact Or.inl rfl | exact Or.inr rfl)) (pgs_cons (pg_name (i := 8) sc_root_stretches.nd rfl (by first | exact Or.inl rfl | exact Or.inr rfl)) (pgs_cons (pg_name (i := 9) sc_root_stretches.nd rfl (by first | exact Or.inl rfl | exact Or.inr rfl)) pgs_nil))))))
      (pss_one (ps_if (pt_cmpR op_eq (pe_op op_sub (pv 8) (pv 9)) pe_int (nomark _)) (pss_one (ps_expr (pe_bm PySem.F.plainAttrs_list PySem.F.slot_list_append PySem.F.type_list_append mt_append (pv 7) (pa_cons (pe_tup (pa_cons (pv 4) (pa_cons (pv 5) pa_nil))) pa_nil)))) (pss_one (ps_if (pt_cmpR op_gt (pe_op op_sub (pv 8) (pv 9)) pe_int (nomark _)) (pss_cons (ps_set (i := 10) sc_root_stretches.nd rfl (by first | exact Or.inl rfl | exact Or.inr rfl) (pe_call F_middle (hr.mono (by decide)) rfl g_middle k_middle b_middle .nil pass0 (pa_cons (pv 4) (pa_cons (pv 5) pa_nil))))
      (pss_cons (ps_set (i := 11) sc_root_stretches.nd rfl (by first | exact Or.inl rfl | exact Or.inr rfl) (pe_call F_changes_at (hr.mono (by decide)) rfl g_changes_at k_changes_at b_changes_at .nil pass0 (pa_cons (pe_ix ix_lt (pv 2) pe_int (fun _ _ => rfl)) (pa_cons (pv 10) (pa_cons pe_int pa_nil)))))
      (pss_cons (ps_expr (pe_bm PySem.F.plainAttrs_list PySem.F.slot_list_append PySem.F.type_list_append mt_append (pv 6) (pa_cons (pe_tup (pa_cons (pv 10) (pa_cons (pv 5) (pa_cons (pv 11) (pa_cons (pv 9) pa_nil))))) pa_nil)))
      (pss_one (ps_expr (pe_bm PySem.F.plainAttrs_list PySem.F.slot_list_append PySem.F.type_list_append mt_append (pv 6) (pa_cons (pe_tup (pa_cons (pv 4) (pa_cons (pv 10) (pa_cons (pv 8) (pa_cons (pv 11) pa_nil))))) pa_nil))))))) pss_nil))))))
      (pss_one (ps_ret (pe_callTy call_tuple_of (by rfl) hf_tuple (by decide +kernel) (pa_cons (pv 7) pa_nil))))))))))))
/-! ### roots_answer -/
theorem sc_roots_answer : FnScope ["poly", "low", "high", "chain"] ["poly", "low", "high"] (defScope s_roots_answer) := ⟨rfl, rfl, rfl, by decide +kernel, rfl, by decide +kernel, by decide +kernel⟩
def sp_roots_answer (K : PySem.W.Frag) : Sp := fun vs H Q E => ∃ (v lo hi : V), vs = [v, lo, hi] ∧ (AskBad K E H v lo hi ∨ ∃ p d e, AskOk H v lo hi p d e ∧ rootsOk p d e = true ∧ ∀ x H', Same H H' → Q x H')
theorem len_roots_answer {K : PySem.W.Frag} {vs : List V} {H : Hp} {Q : VK} {E : XK} (h : sp_roots_answer K vs H Q E) : vs.length = ["poly", "low", "high"].length := by
  obtain ⟨_, _, _, rfl, _⟩ := h
  rfl
def t_roots_answer (K : PySem.W.Frag) (E : XK) : TS := (tSeq (tAsg (tCall (sp_asked_chain K) [] E (tCons (tVar 0) (tCons (tVar 1) (tCons (tVar 2) tNil)))) (gName 3))
  (tRet (tTup (tCons (tTup (tCons (tC (.str "roots")) (tCons (tVar 0) (tCons (tVar 1) (tCons (tVar 2) (tCons (tCall (sp_roots_between K) [] E0 (tCons (tVar 3) (tCons (tVar 1) (tCons (tVar 2) tNil)))) tNil)))))) (tCons (tCall (sp_chain_paper K) [] E0 (tCons (tVar 3) tNil)) tNil)))))
theorem pure_roots_answer (K : PySem.W.Frag) (vs : List V) (H : Hp) (Q : VK) (E : XK) (h : sp_roots_answer K vs H Q E) : t_roots_answer K E { nx := fun _ H' => Q .non H', rt := Q } (start ["poly", "low", "high", "chain"] vs) H := by
  obtain ⟨v, lo, hi, rfl, h⟩ := h
  unfold t_roots_answer
  walk_at "z"
  rcases h with h | ⟨p, d, e, ho, ok, hq⟩
  · exact ⟨v, lo, hi, rfl, .inl h⟩
  · refine ⟨v, lo, hi, rfl, .inr ⟨p, d, e, ho, fun c H1 s1 hc => ?_⟩⟩
    obtain ⟨ds, g, n, _, hp, g1, g2, b⟩ := ho
    walk_at "z"
    refine ch_roots hc (g1.same s1) (g2.same s1) ok fun H2 s2 => ?_
    walk_at "z"
    refine ⟨by decide, fun T hT => ?_⟩
    have f1 := same_upd (o := .tup [V.str "roots", v, lo, hi, V.int (rootsQ p d e)]) hT
    generalize upd H2 T (.tup [V.str "roots", v, lo, hi, V.int (rootsQ p d e)]) = G1 at *
    have hc2 := (hc.same s2).same f1
    refine ⟨c, rfl, ?_, fun x H3 s3 => ?_⟩
    · rcases hc2 with h | ⟨h1, h2⟩
      · exact .inl h.2
      · exact .inr ⟨p, h2, h1⟩
    · refine ⟨by decide, fun T2 hT2 => ?_⟩
      exact hq _ _ ((((s1.trans s2).trans f1).trans s3).trans (same_upd hT2))
theorem ok_roots_answer {P : Program} {w : World} {K : PySem.W.Frag} {mg : Str → Option Value} {base : Heap} (T : Tx K mg) : OkkX P w K mg base 10 "roots_answer" ["poly", "low", "high"] (sp_roots_answer K) := by
  obtain ⟨fd_chain_paper, F_chain_paper, b_chain_paper, g_chain_paper, k_chain_paper⟩ := ok_chain_paper (P := P) (w := w) (base := base) T
  obtain ⟨fd_roots_between, F_roots_between, b_roots_between, g_roots_between, k_roots_between⟩ := ok_roots_between (P := P) (w := w) (base := base) T
  obtain ⟨fd_asked_chain, F_asked_chain, b_asked_chain, g_asked_chain, k_asked_chain⟩ := ok_asked_chain (P := P) (w := w) (base := base) T
  obtain ⟨fd, F⟩ := T.f_roots_answer
  refine ⟨fd, F.ok sc_roots_answer (fun vs H Q E h => len_roots_answer h) (fun cdv A outer s H vs Q E hr h => ⟨t_roots_answer K E, ?_, pure_roots_answer K vs H Q E h⟩), F.bindsN (fun _ _ _ _ _ _ us hl => match us, hl with | [_, _, _], _ => rfl), T.g_roots_answer, F.kp⟩
  exact (pss_cons (ps_set (i := 3) sc_roots_answer.nd rfl (by first | exact Or.inl rfl | exact Or.inr rfl) (pe_call F_asked_chain (hr.mono (by decide)) rfl g_asked_chain k_asked_chain b_asked_chain .nil (passes_call (takes_of rfl rfl rfl rfl) (fun _ _ _ _ h => h)) (pa_cons (pv 0) (pa_cons (pv 1) (pa_cons (pv 2) pa_nil)))))
      (pss_one (ps_ret (pe_tup (pa_cons (pe_tup (pa_cons pe_str (pa_cons (pv 0) (pa_cons (pv 1) (pa_cons (pv 2) (pa_cons (pe_call F_roots_between (hr.mono (by decide)) rfl g_roots_between k_roots_between b_roots_between .nil pass0 (pa_cons (pv 3) (pa_cons (pv 1) (pa_cons (pv 2) pa_nil)))) pa_nil)))))) (pa_cons (pe_call F_chain_paper (hr.mono (by decide)) rfl g_chain_paper k_chain_paper b_chain_paper .nil pass0 (pa_cons (pv 3) pa_nil)) pa_nil))))))
/-! ### alone_answer -/
theorem sc_alone_answer : FnScope ["poly", "low", "high", "chain"] ["poly", "low", "high"] (defScope s_alone_answer) := ⟨rfl, rfl, rfl, by decide +kernel, rfl, by decide +kernel, by decide +kernel⟩
def sp_alone_answer (K : PySem.W.Frag) : Sp := fun vs H Q E => ∃ (v lo hi : V), vs = [v, lo, hi] ∧ (AskBad K E H v lo hi ∨ AskNot K E H v lo hi)
theorem len_alone_answer {K : PySem.W.Frag} {vs : List V} {H : Hp} {Q : VK} {E : XK} (h : sp_alone_answer K vs H Q E) : vs.length = ["poly", "low", "high"].length := by
  obtain ⟨_, _, _, rfl, _⟩ := h
  rfl
def t_alone_answer (K : PySem.W.Frag) (E : XK) : TS := (tSeq (tAsg (tCall (sp_asked_chain K) [] E (tCons (tVar 0) (tCons (tVar 1) (tCons (tVar 2) tNil)))) (gName 3))
  (tSeq (tDrop (tCall (sp_check_alone K) [] E (tCons (tVar 3) (tCons (tVar 1) (tCons (tVar 2) tNil)))))
  (tRet (tTup (tCons (tTup (tCons (tC (.str "alone")) (tCons (tVar 0) (tCons (tVar 1) (tCons (tVar 2) tNil))))) (tCons (tCall (sp_chain_paper K) [] E0 (tCons (tVar 3) tNil)) tNil))))))
theorem pure_alone_answer (K : PySem.W.Frag) (vs : List V) (H : Hp) (Q : VK) (E : XK) (h : sp_alone_answer K vs H Q E) : t_alone_answer K E { nx := fun _ H' => Q .non H', rt := Q } (start ["poly", "low", "high", "chain"] vs) H := by
  obtain ⟨v, lo, hi, rfl, h⟩ := h
  unfold t_alone_answer
  walk_at "z"
  rcases h with h | ⟨p, d, e, ho, ok, n1, r⟩
  · exact ⟨v, lo, hi, rfl, .inl h⟩
  · refine ⟨v, lo, hi, rfl, .inr ⟨p, d, e, ho, fun c H1 s1 hc => ?_⟩⟩
    obtain ⟨ds, g, n, _, hp, g1, g2, b⟩ := ho
    walk_at "z"
    exact ⟨c, lo, hi, p, d, e, rfl, hc, g1.same s1, g2.same s1, ok, .inl ⟨n1, r.same s1⟩⟩
theorem ok_alone_answer {P : Program} {w : World} {K : PySem.W.Frag} {mg : Str → Option Value} {base : Heap} (T : Tx K mg) : OkkX P w K mg base 10 "alone_answer" ["poly", "low", "high"] (sp_alone_answer K) := by
  obtain ⟨fd_chain_paper, F_chain_paper, b_chain_paper, g_chain_paper, k_chain_paper⟩ := ok_chain_paper (P := P) (w := w) (base := base) T
  obtain ⟨fd_asked_chain, F_asked_chain, b_asked_chain, g_asked_chain, k_asked_chain⟩ := ok_asked_chain (P := P) (w := w) (base := base) T
  obtain ⟨fd_check_alone, F_check_alone, b_check_alone, g_check_alone, k_check_alone⟩ := ok_check_alone (P := P) (w := w) (base := base) T
  obtain ⟨fd, F⟩ := T.f_alone_answer
  refine ⟨fd, F.ok sc_alone_answer (fun vs H Q E h => len_alone_answer h) (fun cdv A outer s H vs Q E hr h => ⟨t_alone_answer K E, ?_, pure_alone_answer K vs H Q E h⟩), F.bindsN (fun _ _ _ _ _ _ us hl => match us, hl with | [_, _, _], _ => rfl), T.g_alone_answer, F.kp⟩
  exact (pss_cons (ps_set (i := 3) sc_alone_answer.nd rfl (by first | exact Or.inl rfl | exact Or.inr rfl) (pe_call F_asked_chain (hr.mono (by decide)) rfl g_asked_chain k_asked_chain b_asked_chain .nil (passes_call (takes_of rfl rfl rfl rfl) (fun _ _ _ _ h => h)) (pa_cons (pv 0) (pa_cons (pv 1) (pa_cons (pv 2) pa_nil)))))
      (pss_cons (ps_expr (pe_call F_check_alone (hr.mono (by decide)) rfl g_check_alone k_check_alone b_check_alone .nil (passes_call (takes_of rfl rfl rfl rfl) (fun _ _ _ _ h => h)) (pa_cons (pv 3) (pa_cons (pv 1) (pa_cons (pv 2) pa_nil)))))
      (pss_one (ps_ret (pe_tup (pa_cons (pe_tup (pa_cons pe_str (pa_cons (pv 0) (pa_cons (pv 1) (pa_cons (pv 2) pa_nil))))) (pa_cons (pe_call F_chain_paper (hr.mono (by decide)) rfl g_chain_paper k_chain_paper b_chain_paper .nil pass0 (pa_cons (pv 3) pa_nil)) pa_nil)))))))
/-! dice -/
def Dice (H : Hp) (d : Addr) : Prop := ∃ a b c : Int, H d = some (.lst [.int a, .int b, .int c])
theorem Keep.refl (d : Addr) (H : Hp) : Keep d H H := fun _ _ _ h => h
theorem Keep.trans {d : Addr} {H H1 H2 : Hp} (a : Keep d H H1) (b : Keep d H1 H2) : Keep d H H2 := fun c o n h => b c o n (a c o n h)
theorem Keep.put {d : Addr} {H H1 : Hp} {o : HO} (a : Keep d H H1) : Keep d H (L2.upd H1 d o) := fun b u n h => by rw [upd_ne n]; exact a b u n h
theorem Keep.same {d : Addr} {H H1 H2 : Hp} (a : Keep d H H1) (b : Same H1 H2) : Keep d H H2 := fun c o n h => b c o (a c o n h)
theorem Dice.same {d : Addr} {H H1 : Hp} (a : Dice H d) (b : Same H H1) : Dice H1 d := by
  obtain ⟨x, y, z, h⟩ := a
  exact ⟨x, y, z, b _ _ h⟩
theorem Keep.new {d p : Addr} {H H1 : Hp} {o : HO} (a : Keep d H H1) (hp : H1 p = none) : Keep d H (L2.upd H1 p o) := a.same (same_upd hp)
/-- a list of dice made on the way is nothing of the old heap -/
theorem Keep.out {d : Addr} {H0 H H1 : Hp} (s : Same H0 H) (n : H0 d = none) (a : Keep d H H1) : Same H0 H1 := fun b o h => a b o (ne_of_none h n) (s b o h)
theorem cpow {i j : Int} (h : 0 ≤ j ∧ j ≤ 1000000 ∧ i.natAbs < 2 ^ 64) : CPow i j := h
theorem divM {i m : Int} (h : 0 < m) (h2 : m < 2 ^ 250) : CDivW i m := wide_div (b := 250) h (by omega) (by decide) (by decide)
theorem atI_nat {α : Type} {xs : List α} {i : Nat} {x : α} (h : xs[i]? = some x) : atI xs (i : Int) = some x := by
  have hl := (List.getElem?_eq_some_iff.mp h).1
  unfold atI ixN
  rw [if_pos (by omega), if_pos (by omega)]
  exact h
/-! plain data -/
def Gd (n : Nat) (d : PyData) : Prop := PyData.canLay0 d = true ∧ PyData.depth d ≤ n ∧ PyData.eqv d d = true
theorem gd_all {n : Nat} : ∀ {ds : List PyData}, (∀ d ∈ ds, Gd n d) → PyData.canLayAll0 ds = true ∧ PyData.depthAll ds ≤ n ∧ PyData.eqvAll ds ds = true
  | [], _ => ⟨rfl, Nat.zero_le _, rfl⟩
  | d :: ds, h => by
    obtain ⟨h1, h2, h3⟩ := h d (by simp)
    obtain ⟨g1, g2, g3⟩ := gd_all (ds := ds) fun e he => h e (by simp [he])
    refine ⟨?_, ?_, ?_⟩
    · simp only [PyData.canLayAll0, h1, g1, Bool.and_self]
    · simp only [PyData.depthAll]; omega
    · simp only [PyData.eqvAll, h3, g3, Bool.and_self]
theorem Gd.int {n : Nat} (i : Int) : Gd n (.int i) := ⟨rfl, Nat.zero_le _, by simp [PyData.eqv]⟩
theorem Gd.tup {n : Nat} {ds : List PyData} (h : ∀ d ∈ ds, Gd n d) : Gd (n + 1) (.tuple ds) := by
  obtain ⟨h1, h2, h3⟩ := gd_all h
  exact ⟨by simp only [PyData.canLay0]; exact h1, by simp only [PyData.depth]; omega, by simp only [PyData.eqv]; exact h3⟩
theorem Gd.lst {n : Nat} {ds : List PyData} (h : ∀ d ∈ ds, Gd n d) : Gd (n + 1) (.list ds) := by
  obtain ⟨h1, h2, h3⟩ := gd_all h
  exact ⟨by simp only [PyData.canLay0]; exact h1, by simp only [PyData.depth]; omega, by simp only [PyData.eqv]; exact h3⟩
theorem Gd.shaped {n : Nat} {d : PyData} (h : Gd n d) (hn : n ≤ 64) : SeqAt.shaped d = true := by
  unfold SeqAt.shaped
  rw [h.1, decide_eq_true (show PyData.depth d ≤ 64 by have := h.2.1; omega)]
  rfl
theorem eqD_same {K : PySem.W.Frag} {H : Hp} {v w : V} {d : PyData} {n : Nat} {Q : VK} (a : Dp K H v d) (b : Dp K H w d) (h : Gd n d) (hn : n ≤ 64) (q : Q (.bl true) H) : rEqD K v w H Q := by
  refine ⟨d, d, a, b, h.shaped hn, h.shaped hn, ?_⟩
  rw [h.2.2]; exact q
theorem neD_same {K : PySem.W.Frag} {H : Hp} {v w : V} {d : PyData} {n : Nat} {Q : VK} (a : Dp K H v d) (b : Dp K H w d) (h : Gd n d) (hn : n ≤ 64) (q : Q (.bl false) H) : rNeD K v w H Q := by
  refine ⟨d, d, a, b, h.shaped hn, h.shaped hn, ?_⟩
  rw [h.2.2]; exact q
def numD (g x y : Int) : PyData := if g = 0 then .tuple [.int x, .int y] else .int x
theorem num_dp {K : PySem.W.Frag} {H : Hp} {g : Int} {z : V} {x y : Int} (n : NumR H g z x y) : Dp K H z (numD g x y) := by
  rcases n with ⟨e, ⟨p, rfl, hp⟩, _⟩ | ⟨e, rfl, _⟩
  · unfold numD
    rw [if_pos e]
    exact .tup (sqT_of hp) (.cons (.int _) (.cons (.int _) .nil))
  · unfold numD
    rw [if_neg e]
    exact .int _
theorem numD_gd (g x y : Int) : Gd 1 (numD g x y) := by
  unfold numD
  split
  · exact Gd.tup (n := 0) fun d hd => by
      simp only [List.mem_cons, List.not_mem_nil, or_false] at hd
      rcases hd with rfl | rfl <;> exact Gd.int _
  · exact Gd.int _
def rowD (g : Int) (qs : List (Int × Int)) : PyData := .tuple (qs.map fun q => numD g q.1 q.2)
def tabD (g : Int) (qss : List (List (Int × Int))) : PyData := .tuple (qss.map (rowD g))
theorem rowD_gd (g : Int) (qs : List (Int × Int)) : Gd 2 (rowD g qs) := Gd.tup fun d hd => by
  obtain ⟨q, _, rfl⟩ := List.mem_map.mp hd
  exact numD_gd _ _ _
theorem tabD_gd (g : Int) (qss : List (List (Int × Int))) : Gd 3 (tabD g qss) := Gd.tup fun d hd => by
  obtain ⟨q, _, rfl⟩ := List.mem_map.mp hd
  exact rowD_gd _ _
theorem all2_dp {α : Type} {K : PySem.W.Frag} {H : Hp} {R : V → α → Prop} {f : α → PyData} (hf : ∀ v q, R v q → Dp K H v (f q)) : ∀ {xs : List V} {qs : List α}, All2 R xs qs → DpAll K H xs (qs.map f)
  | [], [], _ => .nil
  | [], _ :: _, h => absurd h.1 (by simp)
  | _ :: _, [], h => absurd h.1 (by simp)
  | x :: xs, q :: qs, h => .cons (hf x q (h.2 0 x q rfl rfl)) (all2_dp hf ⟨by simpa using h.1, fun i v r a b => h.2 (i + 1) v r a b⟩)
theorem row_dp {K : PySem.W.Frag} {H : Hp} {g : Int} {v : V} {qs : List (Int × Int)} (h : RowN H g v qs) : Dp K H v (rowD g qs) := by
  obtain ⟨T, xs, rfl, hT, hA⟩ := h
  exact .tup (sqT_of hT) (all2_dp (fun v q n => num_dp n) hA)
theorem tab_dp {K : PySem.W.Frag} {H : Hp} {g : Int} {v : V} {qss : List (List (Int × Int))} (h : TabN H g v qss) : Dp K H v (tabD g qss) := by
  obtain ⟨T, xs, rfl, hT, hA⟩ := h
  exact .tup (sqT_of hT) (all2_dp (fun v q n => row_dp n) hA)
theorem ints_dp {K : PySem.W.Frag} {H : Hp} (ns : List Int) : DpAll K H (ns.map V.int) (ns.map PyData.int) := by
  induction ns with
  | nil => exact .nil
  | cons n ns ih => exact .cons (.int _) ih
theorem NumR.low {H : Hp} {g : Int} {v : V} {a b : Int} (h : NumR H g v a b) : 1 ≤ b ∧ (g = 0 → Nat.gcd a.natAbs b.natAbs = 1) := by
  rcases h with ⟨_, _, b1, hc⟩ | ⟨e, _, hb, _⟩
  · exact ⟨b1, fun _ => hc⟩
  · exact ⟨by omega, fun c => absurd c e⟩
/-- v != 0, a number of the ground being compared with its 0 -/
theorem num_ne0 {K : PySem.W.Frag} {H : Hp} {g : Int} {z z' : V} {x y : Int} {Q : VK} (n : NumR H g z x y) (n' : NumR H g z' 0 1) (q : Q (.bl (!decide (x = 0))) H) : rNeD K z z' H Q := by
  refine ⟨_, _, num_dp n, num_dp n', (numD_gd _ _ _).shaped (by decide), (numD_gd _ _ _).shaped (by decide), ?_⟩
  have e : PyData.eqv (numD g x y) (numD g 0 1) = decide (x = 0) := by
    unfold numD
    split
    · rename_i h
      rw [Bool.eq_iff_iff, decide_eq_true_eq]
      simp only [PyData.eqv, PyData.eqvAll, Bool.and_true, Bool.and_eq_true, beq_iff_eq]
      refine ⟨fun h => h.1, fun hx => ⟨hx, ?_⟩⟩
      have := n.low.2 h
      rw [hx] at this
      have y1 := n.low.1
      simp at this
      omega
    · rw [Bool.eq_iff_iff, decide_eq_true_eq]
      simp [PyData.eqv]
  rw [e]; exact q
/-! numbers, seen in the field -/
section
variable {F : Type} [Lean.Grind.Field F] {g : Nat} [Lean.Grind.IsCharP F g]
theorem NumR.inj {H H' : Hp} {v w : V} {a b c d : Int} (n : NumR H g v a b) (m : NumR H' g w c d) (e : Lin.val F a b = Lin.val F c d) : a = c ∧ b = d := by
  by_cases g0 : g = 0
  · subst g0
    have h1 := n.low
    have h2 := m.low
    exact Lin.cop_eq h1.1 h2.1 (h1.2 rfl) (h2.2 rfl) ((Lin.val_frac h1.1 h2.1).1 e)
  · have g1 : (g : Int) ≠ 0 := by omega
    rcases n with ⟨c, _⟩ | ⟨_, _, rfl, a0, a1⟩
    · exact absurd c g1
    · rcases m with ⟨c, _⟩ | ⟨_, _, rfl, c0, c1⟩
      · exact absurd c g1
      · rw [Lin.val_one, Lin.val_one, Lin.ph_eq g, Int.emod_eq_of_lt a0 a1, Int.emod_eq_of_lt c0 c1] at e
        exact ⟨e, rfl⟩
theorem NumR.zero_iff {H : Hp} {v : V} {a b : Int} (n : NumR H g v a b) : a = 0 ↔ Lin.val F a b = 0 := by
  constructor
  · intro e
    rw [e, Lin.val, Lin.ph_zero]; grind
  · intro e
    by_cases g0 : g = 0
    · subst g0
      have h1 := n.low
      have hb : Lin.ph F b ≠ 0 := fun h => by rw [Lin.ph_eq_zero 0] at h; simp at h; omega
      have : Lin.ph F a = 0 := by
        unfold Lin.val at e; grind
      rw [Lin.ph_eq_zero 0] at this
      simpa using this
    · have g1 : (g : Int) ≠ 0 := by omega
      rcases n with ⟨c, _⟩ | ⟨_, _, rfl, a0, a1⟩
      · exact absurd c g1
      · rw [Lin.val_one, Lin.ph_eq_zero g, Int.emod_eq_of_lt a0 a1] at e
        exact e
/-- how great a number is, by what it stands for -/
theorem NumR.szn {H : Hp} {v : V} {q : Int × Int} {B : Nat} (hg : GroundV (.int (g : Int))) (n : NumR H g v q.1 q.2) (h : Lin.Com F g B fun _ : Unit => Lin.val F q.1 q.2) (hB : 14 ≤ B) : Sz B q.1 ∧ Sz B q.2 := by
  by_cases g0 : g = 0
  · subst g0
    exact h.sz () n.low.1 (n.low.2 rfl) rfl
  · have g1 : (g : Int) ≠ 0 := by omega
    have g9 := ground_le hg
    have hp : 2 ^ 14 ≤ 2 ^ B := Nat.pow_le_pow_right (by decide) hB
    rcases n with ⟨c, _⟩ | ⟨_, _, e, a0, a1⟩
    · exact absurd c g1
    · unfold Sz
      rw [e]
      exact ⟨by omega, by have : (1 : Int).natAbs = 1 := rfl; omega⟩
theorem RowN.inj {H H' : Hp} {v w : V} {qs rs : List (Int × Int)} (n : RowN H g v qs) (m : RowN H' g w rs) (hl : qs.length = rs.length) (e : ∀ j, j < qs.length → rowF F qs j = rowF F rs j) : qs = rs := by
  obtain ⟨_, xs, _, _, hA⟩ := n
  obtain ⟨_, ys, _, _, hB⟩ := m
  refine List.ext_getElem? fun j => ?_
  by_cases hj : j < qs.length
  · have h1 := List.getElem?_eq_getElem hj
    have h2 := List.getElem?_eq_getElem (show j < rs.length by omega)
    have n1 := hA.2 j _ _ (List.getElem?_eq_getElem (show j < xs.length by rw [hA.1]; exact hj)) h1
    have n2 := hB.2 j _ _ (List.getElem?_eq_getElem (show j < ys.length by rw [hB.1]; omega)) h2
    have e2 := e j hj
    rw [rowF_at h1, rowF_at h2] at e2
    rw [h1, h2, Prod.ext_iff.mpr (n1.inj n2 e2)]
  · rw [List.getElem?_eq_none (by omega), List.getElem?_eq_none (by omega)]
theorem TabN.inj {H H' : Hp} {v w : V} {qss rss : List (List (Int × Int))} (n : TabN H g v qss) (m : TabN H' g w rss) (hl : qss.length = rss.length) (e : ∀ (i : Nat) (qs rs : List (Int × Int)), qss[i]? = some qs → rss[i]? = some rs → qs.length = rs.length ∧ ∀ j, j < qs.length → rowF F qs j = rowF F rs j) : qss = rss := by
  obtain ⟨_, xs, _, _, hA⟩ := n
  obtain ⟨_, ys, _, _, hB⟩ := m
  refine List.ext_getElem? fun j => ?_
  by_cases hj : j < qss.length
  · have h1 := List.getElem?_eq_getElem hj
    have h2 := List.getElem?_eq_getElem (show j < rss.length by omega)
    have n1 := hA.2 j _ _ (List.getElem?_eq_getElem (show j < xs.length by rw [hA.1]; exact hj)) h1
    have n2 := hB.2 j _ _ (List.getElem?_eq_getElem (show j < ys.length by rw [hB.1]; omega)) h2
    obtain ⟨e1, e2⟩ := e j _ _ h1 h2
    rw [h1, h2, n1.inj n2 e1 e2]
  · rw [List.getElem?_eq_none (by omega), List.getElem?_eq_none (by omega)]
end
/-- a list or a tuple of numbers -/
def SeqN (H : Hp) (g : Int) (b : Bool) (v : V) (qs : List (Int × Int)) : Prop := ∃ a xs, v = .ref a ∧ H a = some (if b then .lst xs else .tup xs) ∧ All2 (fun v q => NumR H g v q.1 q.2) xs qs
theorem SeqN.same {H H' : Hp} {g : Int} {b : Bool} {v : V} {qs : List (Int × Int)} (h : SeqN H g b v qs) (s : Same H H') : SeqN H' g b v qs := by
  obtain ⟨a, xs, e, ha, hA⟩ := h
  exact ⟨a, xs, e, s _ _ ha, hA.imp fun v q n => n.same s⟩
theorem RowN.seq {H : Hp} {g : Int} {v : V} {qs : List (Int × Int)} (h : RowN H g v qs) : SeqN H g false v qs := h
theorem grd8 {n : Int} (h : n = 0 ∨ n = 2 ∨ n = 3 ∨ n = 5 ∨ n = 7 ∨ n = 97 ∨ n = 9973) : GroundV (.int n) := by
  have hp : ∀ n : Int, 2 ≤ n → n < 9999 → (∀ k : Nat, k < 98 → 2 + (k : Int) < n → n % (2 + (k : Int)) ≠ 0) → PrimeI n := fun n n2 n9 h => ⟨n2, fun k k2 kn kd => by
    obtain ⟨m, e⟩ := kd
    have m1 : 1 < m := by
      refine Classical.byContradiction fun c => ?_
      have := Int.mul_le_mul_of_nonneg_left (show m ≤ 1 by omega) (show 0 ≤ k by omega)
      omega
    by_cases c : k < 100
    · exact h (k - 2).toNat (by omega) (by omega) (by
        rw [show (2 : Int) + ((k - 2).toNat : Int) = k by omega, e]
        exact Int.mul_emod_right k m)
    · have m100 : m < 100 := by
        refine Classical.byContradiction fun d => ?_
        have := Int.mul_le_mul (show (100 : Int) ≤ k by omega) (show (100 : Int) ≤ m by omega) (by decide) (by omega)
        omega
      have mn : m < n := by
        have := Int.mul_le_mul_of_nonneg_right (show 2 ≤ k by omega) (show 0 ≤ m by omega)
        omega
      exact h (m - 2).toNat (by omega) (by omega) (by
        rw [show (2 : Int) + ((m - 2).toNat : Int) = m by omega, e]
        exact Int.mul_emod_left k m)⟩
  rcases h with rfl | h
  · exact ⟨0, rfl, by decide, by decide, .inl rfl⟩
  · rcases h with rfl | rfl | rfl | rfl | rfl | rfl <;> exact ⟨_, rfl, by decide, by decide, .inr (hp _ (by decide) (by decide) (by decide +kernel))⟩
/-- over enumerate of a tuple, what is given being no new thing -/
theorem comp_ET {K : PySem.W.Frag} {a : Addr} {xs : List V} {g : TG} {tt : TT} {te : TE} {vs : List Nat} {σ : St} {H1 : Hp} {Q : VK} {outs : Nat → Option V} (hT : H1 a = some (.tup xs)) (hn : xs.length < 2 ^ 22)
    (turn : ∀ i x T H', xs[i]? = some x → Same H1 H' → H' T = some (.tup [.int (i : Nat), x]) → ∀ Qo : Option V → Hp → Prop, (∀ H2, Same H' H2 → Qo (outs i) H2) → g (.ref T) (wipe σ vs) H' fun σ2 H2 => wipe σ2 vs = wipe σ vs ∧ tt σ2 H2 fun b H3 => if b = true then te σ2 H3 fun y H4 => Qo (some y) H4 else Qo none H3)
    (fin : ∀ D H', H1 D = none → Same H1 H' → H' D = some (.lst (outL outs xs.length)) → Q (.ref D) H') : LcW (IteT K a) H1 g tt te vs σ Q := fun D hD => by
  refine ⟨fun i m H => m = xs.length - i ∧ i ≤ xs.length ∧ Same H1 H ∧ H D = some (.lst (outL outs i)), ⟨xs.length, by simp, Nat.zero_le _, same_upd hD, upd_same⟩, ?_⟩
  rintro i m H ⟨rfl, hi, s, hL⟩
  by_cases hlt : i < xs.length
  · refine .inr ⟨⟨xs, _, sqT_of (s _ _ hT), List.getElem?_eq_getElem hlt⟩, fun H => Same H1 H ∧ H D = some (.lst (outL outs (i + 1))), fun H' p' => ⟨xs.length - (i + 1), by omega, rfl, hlt, p'⟩, fun v H' y => ?_⟩
    obtain ⟨T, x, rfl, hTn, rfl, f⟩ := y
    exact turn i x T _ (f xs (sqT_of (s _ _ hT))) (s.trans (same_upd hTn)) upd_same (OutOf D fun H => Same H1 H ∧ H D = some (.lst (outL outs (i + 1)))) fun H2 s2 => out_ok hD outs hlt hn ⟨s.trans (same_upd hTn), same_upd hTn _ _ hL⟩ s2
  · obtain rfl : i = xs.length := by omega
    exact .inl ⟨⟨xs, sqT_of (s _ _ hT), rfl⟩, fin D H hD s hL⟩
theorem row_keep {D : Addr} {H H' : Hp} {g : Int} {v : V} {qs : List (Int × Int)} (dd : Dice H D) (k : Keep D H H') (n : RowN H g v qs) : RowN H' g v qs := by
  have ne : ∀ {T : Addr} {xs : List V}, H T = some (.tup xs) → T ≠ D := fun h e => by
    obtain ⟨_, _, _, h2⟩ := dd
    rw [e, h2] at h
    cases h
  obtain ⟨T, xs, e, hT, hA⟩ := n
  refine ⟨T, xs, e, k _ _ (ne hT) hT, hA.imp fun v q m => ?_⟩
  rcases m with ⟨c, ⟨p, e2, hp⟩, r⟩ | h
  · exact .inl ⟨c, ⟨p, e2, k _ _ (ne hp) hp⟩, r⟩
  · exact .inr h
theorem num_keep {D : Addr} {H H' : Hp} {g : Int} {v : V} {a b : Int} (dd : Dice H D) (k : Keep D H H') (n : NumR H g v a b) : NumR H' g v a b := by
  rcases n with ⟨e, ⟨p, e2, hp⟩, r⟩ | h
  · refine .inl ⟨e, ⟨p, e2, k _ _ (fun c => ?_) hp⟩, r⟩
    obtain ⟨_, _, _, h⟩ := dd
    rw [c, h] at hp
    cases hp
  · exact .inr h
theorem tab_keep {D : Addr} {H H' : Hp} {g : Int} {v : V} {qss : List (List (Int × Int))} (dd : Dice H D) (k : Keep D H H') (n : TabN H g v qss) : TabN H' g v qss := by
  obtain ⟨T, xs, e, hT, hA⟩ := n
  refine ⟨T, xs, e, k _ _ (fun e => ?_) hT, hA.imp fun v q m => row_keep dd k m⟩
  obtain ⟨_, _, _, h2⟩ := dd
  rw [e, h2] at hT
  cases hT
theorem kmut {D F : Addr} {H H' : Hp} {o : HO} (k : Keep D H H') (h : H F = none) : Keep D H (upd H' F o) := fun b u n e => by
  rw [upd_ne (ne_of_none e h)]; exact k b u n e
theorem dmut {D F : Addr} {H : Hp} {o : HO} (d : Dice H D) (h : D ≠ F) : Dice (upd H F o) D := by
  obtain ⟨x, y, z, e⟩ := d
  exact ⟨x, y, z, by rw [upd_ne h]; exact e⟩
theorem Dice.ne {H : Hp} {d p : Addr} (h : Dice H d) (hp : H p = none) : d ≠ p := by
  obtain ⟨_, _, _, e⟩ := h
  exact ne_of_none e hp
/-- a comprehension over a range, dice being rolled -/
theorem comp_RD {α : Type} {P : Hp → V → α → Prop} {S : Nat → α → Prop} {H1 : Hp} {g : TG} {te : TE} {vs : List Nat} {σ : St} {Q : VK} {lo : Int} {n : Nat} {d : Addr} (st : Stay P) (kp : ∀ {H H' : Hp} {v : V} {a : α}, Dice H d → Keep d H H' → P H v a → P H' v a) (hd : Dice H1 d) (hn : n < 2 ^ 20)
    (turn : ∀ i H', i < n → Keep d H1 H' → Dice H' d → ∀ Qo : VK, (∀ H2 y a, Keep d H' H2 → Dice H2 d → P H2 y a → S i a → Qo y H2) → g (.int (lo + i)) (wipe σ vs) H' fun σ2 H2 => wipe σ2 vs = wipe σ vs ∧ te σ2 H2 Qo)
    (fin : ∀ D H' zs as, H1 D = none → Keep d H1 H' → Dice H' d → H' D = some (.lst zs) → All2 (P H') zs as → as.length = n → (∀ (k : Nat) (a : α), as[k]? = some a → S k a) → Q (.ref D) H') : LcW (Itr lo n) H1 g tYes te vs σ Q := fun D hD => by
  have dD := hd.ne hD
  refine lc_range (lo := lo) (n := n) (fun i H' => Keep d H1 H' ∧ Dice H' d ∧ ∃ (zs : List V) (as : List α), H' D = some (.lst zs) ∧ All2 (P H') zs as ∧ as.length = i ∧ ∀ (k : Nat) (a : α), as[k]? = some a → S k a)
    ⟨(Keep.refl d H1).new hD, hd.same (same_upd hD), [], [], upd_same, ⟨rfl, fun i v q a b => by simp at a⟩, rfl, fun k a h => by simp at h⟩ (fun i H' hi p => ?_) (fun H' ⟨k, d1, zs, as, hz, hA, hl, hS⟩ => fin D H' zs as hD k d1 hz hA hl hS)
  obtain ⟨k, d1, zs, as, hz, hA, hl, hS⟩ := p
  refine turn i H' hi k d1 _ fun H2 y a k2 d2 hp hs => ?_
  have hz2 := k2 _ _ dD.symm hz
  refine ⟨zs, hz2, by rw [hA.1, hl]; exact Nat.lt_of_lt_of_le (show i < 2 ^ 20 by omega) (by decide), kmut (k.trans k2) hD, dmut d2 dD, zs ++ [y], as ++ [a], upd_same, (hA.imp fun v q n => st.upd (kp d1 k2 n) hz2).push (st.upd hp hz2), by simp [hl], fun k b hk => ?_⟩
  by_cases e : k < as.length
  · rw [List.getElem?_append_left e] at hk
    exact hS k b hk
  · have hlt := (List.getElem?_eq_some_iff.mp hk).1
    simp at hlt
    have e2 : k = as.length := by omega
    subst e2
    rw [List.getElem?_append_right (Nat.le_refl _)] at hk
    simp at hk
    subst hk
    rw [hl]; exact hs
/-- as comp_RA, the new things being lists -/
theorem comp_RL {α : Type} {P : Hp → V → α → Prop} {S : Nat → α → Prop} {H1 : Hp} {g : TG} {te : TE} {vs : List Nat} {σ : St} {Q : VK} {lo : Int} {n : Nat} (st : (∀ {H H' : Hp} {v : V} {a : α}, P H v a → Same H H' → P H' v a) ∧ ∀ {H : Hp} {D : Addr} {o : HO} {v : V} {a : α}, P H v a → v ≠ .ref D → (∃ zs, H D = some (.lst zs)) → P (L2.upd H D o) v a) (hn : n < 2 ^ 20)
    (turn : ∀ D zs i H', H' D = some (.lst zs) → i < n → Same H1 H' → ∀ Qo : VK, (∀ H2 y a, Same H' H2 → P H2 y a → y ≠ .ref D → S i a → Qo y H2) → g (.int (lo + i)) (wipe σ vs) H' fun σ2 H2 => wipe σ2 vs = wipe σ vs ∧ te σ2 H2 Qo)
    (fin : ∀ D H' zs as, H1 D = none → Same H1 H' → H' D = some (.lst zs) → All2 (P H') zs as → as.length = n → (∀ (k : Nat) (a : α), as[k]? = some a → S k a) → Q (.ref D) H') : LcW (Itr lo n) H1 g tYes te vs σ Q := fun D hD => by
  refine lc_range (lo := lo) (n := n) (fun i H' => Same H1 H' ∧ ∃ (zs : List V) (as : List α), H' D = some (.lst zs) ∧ All2 (P H') zs as ∧ (∀ v ∈ zs, v ≠ .ref D) ∧ as.length = i ∧ ∀ (k : Nat) (a : α), as[k]? = some a → S k a)
    ⟨same_upd hD, [], [], upd_same, ⟨rfl, fun i v q a b => by simp at a⟩, by simp, rfl, fun k a h => by simp at h⟩ (fun i H' hi p => ?_) (fun H' ⟨s, zs, as, hz, hA, _, hl, hS⟩ => fin D H' zs as hD s hz hA hl hS)
  obtain ⟨s, zs, as, hz, hA, hne, hl, hS⟩ := p
  refine turn D zs i H' hz hi s _ fun H2 y a s2 hp hy hs => ?_
  have hz2 := s2 _ _ hz
  refine ⟨zs, hz2, by rw [hA.1, hl]; exact Nat.lt_of_lt_of_le (show i < 2 ^ 20 by omega) (by decide), same_mutD (s.trans s2) hD, zs ++ [y], as ++ [a], upd_same, All2.push ⟨hA.1, fun k v q h1 h2 => st.2 (st.1 (hA.2 k v q h1 h2) s2) (hne v (List.mem_of_getElem? h1)) ⟨_, hz2⟩⟩ (st.2 hp hy ⟨_, hz2⟩), fun v hv => ?_, by simp [hl], fun k b hk => ?_⟩
  · rcases List.mem_append.mp hv with hv | hv
    · exact hne v hv
    · rw [List.mem_singleton.mp hv]; exact hy
  · by_cases e : k < as.length
    · rw [List.getElem?_append_left e] at hk
      exact hS k b hk
    · have hlt := (List.getElem?_eq_some_iff.mp hk).1
      simp at hlt
      have e2 : k = as.length := by omega
      subst e2
      rw [List.getElem?_append_right (Nat.le_refl _)] at hk
      simp at hk
      subst hk
      rw [hl]; exact hs
theorem stay_lst {g : Int} : (∀ {H H' : Hp} {v : V} {a : List (Int × Int)}, SeqN H g true v a → Same H H' → SeqN H' g true v a) ∧ ∀ {H : Hp} {D : Addr} {o : HO} {v : V} {a : List (Int × Int)}, SeqN H g true v a → v ≠ .ref D → (∃ zs, H D = some (.lst zs)) → SeqN (L2.upd H D o) g true v a := by
  refine ⟨fun h s => h.same s, fun h hv hD => ?_⟩
  obtain ⟨a, xs, rfl, ha, hA⟩ := h
  obtain ⟨zs, hD⟩ := hD
  exact ⟨a, xs, rfl, by rw [upd_ne (fun e => hv (by rw [e]))]; exact ha, hA.imp fun v q n => n.updL hD⟩
theorem bez : ∀ a b : Nat, ∃ u v : Int, (a : Int) * u + b * v = (Nat.gcd a b : Nat) := by
  intro a b
  induction a, b using Nat.gcd.induction with
  | H0 n => exact ⟨0, 1, by simp⟩
  | H1 m n hm ih =>
    obtain ⟨u, v, h⟩ := ih
    refine ⟨v - (n / m : Nat) * u, u, ?_⟩
    rw [Nat.gcd_rec, ← h]
    have e : ((n % m : Nat) : Int) = n - m * (n / m : Nat) := by
      have := Nat.div_add_mod n m
      have h2 : (n : Int) = m * (n / m : Nat) + (n % m : Nat) := by exact_mod_cast this.symm
      omega
    rw [e, Int.mul_sub, Int.sub_mul, Int.mul_assoc]
    omega
theorem ground_F {g : Nat} (hg : GroundV (.int (g : Int))) : ∃ (F : Type) (_ : Lean.Grind.Field F), Lean.Grind.IsCharP F g := by
  refine Lin.ground_field g fun g0 => ?_
  obtain ⟨n, e, _, _, h | h⟩ := hg
  · cases e; omega
  · cases e
    have h2 := h.1
    refine ⟨by omega, fun a a0 ag => ?_⟩
    have hc : Nat.gcd a g = 1 := by
      refine Classical.byContradiction fun hne => ?_
      have hg0 : Nat.gcd a g ≠ 0 := Nat.pos_iff_ne_zero.mp (Nat.gcd_pos_of_pos_left _ a0)
      have hle : Nat.gcd a g ≤ a := Nat.le_of_dvd a0 (Nat.gcd_dvd_left _ _)
      exact h.2 ((Nat.gcd a g : Nat) : Int) (by omega) (by omega) (Int.natCast_dvd_natCast.mpr (Nat.gcd_dvd_right a g))
    obtain ⟨u, v, e⟩ := bez a g
    rw [hc] at e
    refine ⟨(u % (g : Int)).toNat, ?_⟩
    have h3 := Int.emod_nonneg u (show (g : Int) ≠ 0 by omega)
    have h4 : ((a * (u % (g : Int)).toNat % g : Nat) : Int) = 1 := by
      rw [Int.natCast_emod, Int.natCast_mul, Int.toNat_of_nonneg h3, Int.mul_emod, Int.emod_emod_of_dvd u (Int.dvd_refl _), ← Int.mul_emod]
      rw [show (a : Int) * u = 1 + (g : Int) * (-v) by rw [Int.mul_neg]; omega, Int.add_mul_emod_self_left]
      exact Int.emod_eq_of_lt (by decide) (by omega)
    omega
theorem ipow_pos {a : Int} (h : 1 ≤ a) : ∀ n : Nat, 1 ≤ a ^ n
  | 0 => by simp
  | n + 1 => by
    rw [Int.pow_succ]
    exact Int.le_trans (ipow_pos h n) (le_mul1 (by have := ipow_pos h n; omega) h)
theorem ipow_left {a b : Int} (h : 1 ≤ a) (hb : a ≤ b) : ∀ n : Nat, a ^ n ≤ b ^ n
  | 0 => by simp
  | n + 1 => by
    rw [Int.pow_succ, Int.pow_succ]
    exact Int.mul_le_mul (ipow_left h hb n) hb (by omega) (by have := ipow_pos (show 1 ≤ b by omega) n; omega)
theorem ipow_right {b : Int} (h : 1 ≤ b) {m n : Nat} (hn : m ≤ n) : b ^ m ≤ b ^ n := by
  obtain ⟨k, rfl⟩ := Nat.exists_eq_add_of_le hn
  rw [Int.pow_add]
  exact le_mul1 (by have := ipow_pos h m; omega) (ipow_pos h k)
theorem filter_split {α : Type} (p : α → Bool) : ∀ l : List α, (l.filter p).length + (l.filter fun x => !p x).length = l.length
  | [] => rfl
  | x :: l => by
    have := filter_split p l
    cases h : p x <;> simp [h] <;> omega

theorem ground_not1 {g : Int} (hg : GroundV (.int g)) : g ≠ 1 := by
  obtain ⟨n, e, _, _, h | h⟩ := hg
  · cases e; omega
  · cases e; have := h.1; omega
section
variable {F : Type} [Lean.Grind.Field F] {g : Nat}
def Bnd (F : Type) [Lean.Grind.Field F] (g : Nat) (D : Int) (N : Nat) (x : F) : Prop := g = 0 → ∃ n : Int, x * Lin.ph F D = Lin.ph F n ∧ n.natAbs ≤ N
def BndT (F : Type) [Lean.Grind.Field F] (g : Nat) (D : Int) (N : Nat) (qss : List (List (Int × Int))) : Prop := ∀ qs ∈ qss, ∀ j, Bnd F g D N (rowF F qs j)
theorem bnd_com {D : Int} {N B : Nat} {ι : Type} {x : ι → F} (hD : g = 0 → Lin.ph F D ≠ 0) (h1 : D.natAbs < 2 ^ B) (h2 : N < 2 ^ B) (h : ∀ i, Bnd F g D N (x i)) : Lin.Com F g B x := fun g0 =>
  ⟨D, hD g0, h1, fun i => by obtain ⟨n, a, b⟩ := h i g0; exact ⟨n, a, by omega⟩⟩
theorem ph_ne [Lean.Grind.IsCharP F g] {D : Int} (h : D ≠ 0) : g = 0 → Lin.ph F D ≠ 0 := fun g0 e => by
  subst g0
  rw [Lin.ph_eq_zero 0] at e
  simp at e
  exact h e
theorem prI_le {D : Int} (hD : 1 ≤ D) : ∀ {l : List Int}, (∀ n ∈ l, 1 ≤ n ∧ n ≤ D) → prI l ≤ D ^ l.length
  | [], _ => by simp [prI]
  | n :: l, h => by
    have h1 := h n (by simp)
    have h2 := prI_le hD (l := l) fun m hm => h m (by simp [hm])
    have h3 : 1 ≤ prI l := prI_pos fun m hm => (h m (by simp [hm])).1
    rw [List.length_cons, Int.pow_succ]
    simp only [prI]
    have := Int.mul_le_mul h1.2 h2 (by omega) (by omega)
    rw [Int.mul_comm (D ^ l.length) D]
    exact this
theorem row_num {H : Hp} {v : V} {qs : List (Int × Int)} (h : RowN H g v qs) {q : Int × Int} (hq : q ∈ qs) : ∃ w, NumR H g w q.1 q.2 := by
  obtain ⟨T, xs, _, _, hA⟩ := h
  obtain ⟨i, hi⟩ := List.mem_iff_getElem?.mp hq
  have hlt := (List.getElem?_eq_some_iff.mp hi).1
  exact ⟨_, hA.2 i _ q (List.getElem?_eq_getElem (by rw [hA.1]; exact hlt)) hi⟩
theorem tab_row {H : Hp} {v : V} {qss : List (List (Int × Int))} (h : TabN H g v qss) {qs : List (Int × Int)} (hq : qs ∈ qss) : ∃ w, RowN H g w qs := by
  obtain ⟨T, xs, _, _, hA⟩ := h
  obtain ⟨i, hi⟩ := List.mem_iff_getElem?.mp hq
  have hlt := (List.getElem?_eq_some_iff.mp hi).1
  exact ⟨_, hA.2 i _ qs (List.getElem?_eq_getElem (by rw [hA.1]; exact hlt)) hi⟩
theorem turn_at {qss : List (List (Int × Int))} {W : Nat} (hW : ∀ qs ∈ qss, qs.length = W) {j : Nat} (hj : j < W) (i : Nat) : rowF F (qss.map fun qs => qs.getD j (0, 1)) i = atF F qss i j := by
  by_cases hi : i < qss.length
  · have h1 := List.getElem?_eq_getElem hi
    rw [atF_at h1]
    have hw := hW _ (List.getElem_mem hi)
    have h2 := List.getElem?_eq_getElem (show j < qss[i].length by omega)
    rw [rowF_at h2]
    refine rowF_at ?_
    rw [List.getElem?_map, h1, Option.map_some, Lin.getD_some h2]
  · rw [rowF_no (by simp; omega)]
    unfold atF
    rw [List.getD_eq_getElem?_getD, List.getElem?_eq_none (by omega)]
    rfl
theorem turn_bnd {qss : List (List (Int × Int))} {W N : Nat} {D : Int} (hW : ∀ qs ∈ qss, qs.length = W) (hB : BndT F g D N qss) : BndT F g D N (turnQ qss W) := fun qs hq i => by
  obtain ⟨j, hj, rfl⟩ := List.mem_map.mp hq
  rw [turn_at hW (by simpa using hj)]
  by_cases hi : i < qss.length
  · rw [atF_at (List.getElem?_eq_getElem hi)]
    exact hB _ (List.getElem_mem hi) j
  · unfold atF
    rw [List.getD_eq_getElem?_getD, List.getElem?_eq_none (by omega)]
    exact fun _ => ⟨0, by rw [Lin.ph_zero]; show rowF F [] j * _ = 0; rw [rowF_no (by simp)]; grind, by simp⟩
variable [Lean.Grind.IsCharP F g]
theorem num_bnd {H : Hp} {v : V} {q : Int × Int} {D : Int} {N : Nat} (hg : GroundV (.int (g : Int))) (n : NumR H g v q.1 q.2) (hD : 1 ≤ D) (h : Bnd F g D N (Lin.val F q.1 q.2)) : q.1.natAbs ≤ max N 9999 ∧ 1 ≤ q.2 ∧ q.2 ≤ D := by
  by_cases g0 : g = 0
  · subst g0
    obtain ⟨m, e, hm⟩ := h rfl
    have h1 := n.low
    have hc := h1.2 rfl
    have hb0 : Lin.ph F q.2 ≠ 0 := fun h => by rw [Lin.ph_eq_zero 0] at h; simp at h; omega
    have e2 : q.1 * D = m * q.2 := by
      rw [← Lin.ph_inj (F := F), Lin.ph_mul, Lin.ph_mul, ← e, Lin.val]; grind
    have e3 := congrArg Int.natAbs e2
    rw [Int.natAbs_mul, Int.natAbs_mul] at e3
    have d1 : q.2.natAbs ∣ D.natAbs := by
      have : q.2.natAbs ∣ q.1.natAbs * D.natAbs := by rw [e3]; exact Nat.dvd_mul_left _ _
      exact (Nat.Coprime.symm hc).dvd_of_dvd_mul_left this
    have d2 : q.1.natAbs ∣ m.natAbs := by
      have : q.1.natAbs ∣ m.natAbs * q.2.natAbs := by rw [← e3]; exact Nat.dvd_mul_right _ _
      exact Nat.Coprime.dvd_of_dvd_mul_right hc this
    have l1 := Nat.le_of_dvd (by omega) d1
    refine ⟨?_, h1.1, by omega⟩
    by_cases hn : m = 0
    · subst hn
      have : q.1.natAbs * D.natAbs = 0 := by rw [e3]; simp
      have := (Nat.mul_eq_zero.mp this).resolve_right (by omega)
      omega
    · have := Nat.le_of_dvd (by omega) d2
      omega
  · have g1 : (g : Int) ≠ 0 := by omega
    have g9 := ground_le hg
    rcases n with ⟨c, _⟩ | ⟨_, _, e, a0, a1⟩
    · exact absurd c g1
    · omega
end
/-- shown behind a word -/
def shwOk (w : Str) (d : PyData) : Bool := repOk d && decide (w.length + d.shown.length ≤ sizeLine) && PyData.strOk (w ++ d.shown)
open LamX in
/-- what _law_word makes of what it calls -/
def TMet (K : PySem.W.Frag) : (XK → Hp → VK → Prop) → Hp → VK → Prop := fun tl H Q =>
  tl (fun cls d H' =>
    (cls = .ref (He.ga K "InvalidPoly") ∧ ∀ p, H' p = none → Q (.ref p) (upd H' p (.tup [.str "refused", .str "poly"]))) ∨
    (cls = .ref (He.ga K "InvalidOperation") ∧ ∀ p, H' p = none → Q (.ref p) (upd H' p (.tup [.str "refused", .str "operation"]))) ∨
    (cls = .ref (He.ga K "InvalidNumber") ∧ ∃ (dd : Addr) (v : V) (z : Str), d = some dd ∧ H' dd = some (.xd [("given", v)]) ∧ RepV K H' v z ∧ ("number " : Str).length + z.length ≤ sizeLine ∧ ∀ p, H' p = none → Q (.ref p) (upd H' p (.tup [.str "refused", .str (("number " : Str) ++ z)]))) ∨
    (cls = .ref (He.ga K "Refused") ∧ ∃ (dd : Addr) (v : V) (z : Str), d = some dd ∧ H' dd = some (.xd [("reason", v)]) ∧ RepV K H' v z ∧ ("reason " : Str).length + z.length ≤ sizeLine ∧ ∀ p, H' p = none → Q (.ref p) (upd H' p (.tup [.str "refused", .str (("reason " : Str) ++ z)]))))
    H (fun _ H' => [V.str "refused", V.str "fine"].length ≤ sizeLine ∧ ∀ p, H' p = none → Q (.ref p) (upd H' p (.tup [.str "refused", .str "fine"])))
open LamX in
theorem met_gives {X : Cx} (T : Tx X.K X.mg) (hgd : X.A.guards = some []) {cdv : Value} {k : Nat} (hr2 : Room (k + 1) (X.A.deeper (envOfC "_law_word" (defScope s__law_word) 0 (He.ga X.K "_law_word") cdv))) {q : Str} :
    GivesTo X ["call", "error"] "_law_word" (defScope s__law_word) (He.ga X.K "_law_word") cdv (defBody s__law_word) "call" q (TMet X.K) := by
  have hf_repr := T.n_repr
  have hu : X.A.units + 3 + 80 < cLine := hu80_of hr2
  intro f c' s H Q tl act hc h
  refine ⟨_, pss_cons (ps_try_mix (X := (cxOf C8.CX0 X.prog X.w X.K X.mg X.base ["call", "error"] "_law_word" (defScope s__law_word) (He.ga X.K "_law_word") cdv X.A X.stack s H C8.E0).nox)
      (tb := fun W D σ H => ∃ Ech : XK, (∀ cls d σ' H', σ'.length = 2 → Ech cls d H' → W cls d σ' H') ∧ σ[0]? = some (some (.ref f)) ∧ H c' = some (CodeO c' q) ∧ tl Ech H fun _ H' => D.nx σ H')
      rfl rfl takes0 (fun W pn xe tk _ => ?_)
      (Cls1.bare (c := .ref (He.ga X.K "InvalidPoly")) ⟨rfl, by decide, .inl T.e_InvalidPoly.1⟩ (fun a oe cls d pn hz hf => pss_one (ps_ret (pe_tup (pa_cons pe_str (pa_cons pe_str pa_nil)))))
      (Cls1.bare (c := .ref (He.ga X.K "InvalidOperation")) ⟨rfl, by decide, .inl T.e_InvalidOperation.1⟩ (fun a oe cls d pn hz hf => pss_one (ps_ret (pe_tup (pa_cons pe_str (pa_cons pe_str pa_nil)))))
      (Cls1.named (i := 1) (c := .ref (He.ga X.K "InvalidNumber")) ⟨rfl, by decide, .inl T.x_InvalidNumber.gC⟩ sc__law_word.nd rfl rfl
        (fun a oe cls d pn hz hf => pss_one (ps_ret (pe_tup (pa_cons pe_str (pa_cons (pe_op op_add_str pe_str (pe_callB (call_repV2 (K := X.K) rfl hgd hu) (by rfl) hf_repr (by decide +kernel) (pa_cons (pe_field1 T.x_InvalidNumber hz hf (pv 1)) pa_nil))) pa_nil)))))
      (Cls1.named (i := 1) (c := .ref (He.ga X.K "Refused")) ⟨rfl, by decide, .inl T.x_Refused.gC⟩ sc__law_word.nd rfl rfl
        (fun a oe cls d pn hz hf => pss_one (ps_ret (pe_tup (pa_cons pe_str (pa_cons (pe_op op_add_str pe_str (pe_callB (call_repV2 (K := X.K) rfl hgd hu) (by rfl) hf_repr (by decide +kernel) (pa_cons (pe_field1 T.x_Refused hz hf (pv 1)) pa_nil))) pa_nil)))))
      .nil)))))
      (pss_one (ps_ret (pe_tup (pa_cons pe_str (pa_cons pe_str pa_nil))))), ?_⟩
  · refine ⟨fun pins s' σ H' D I h' => ?_⟩
    obtain ⟨Ech, hW, h1, h2, h3⟩ := h'
    have hp := fun p1 p2 => act _ pn xe Ech p1 p2 (takes_len tk) (fun cls d σ' H' e hl => hW cls d σ' H' hl e)
    exact (pss_one (ps_expr (hp _ _))).run pins s' σ H' D I ⟨h1, h2, h3⟩
  · refine ⟨_, fun cls d σ' H' hl e => ?_, rfl, hc, h⟩
    obtain ⟨o1, o2, rfl⟩ : ∃ o1 o2, σ' = [o1, o2] := by
      match σ', hl with
      | [a, b], _ => exact ⟨a, b, rfl⟩
    rcases e with ⟨rfl, hQ⟩ | ⟨rfl, hQ⟩ | ⟨rfl, dd, v, z, rfl, hd, hz, hlen, hQ⟩ | ⟨rfl, dd, v, z, rfl, hd, hz, hlen, hQ⟩
    · refine ⟨true, T.m_InvalidPoly_InvalidPoly, fun _ a na => ?_, fun z => (by cases z)⟩
      exact ⟨by decide, fun p hp => hQ p hp⟩
    · refine ⟨false, T.m_InvalidOperation_InvalidPoly, fun z => (by cases z), fun _ => ⟨true, T.m_InvalidOperation_InvalidOperation, fun _ a na => ?_, fun z => (by cases z)⟩⟩
      exact ⟨by decide, fun p hp => hQ p hp⟩
    · refine ⟨false, T.m_InvalidNumber_InvalidPoly, fun z => (by cases z), fun _ => ⟨false, T.m_InvalidNumber_InvalidOperation, fun z => (by cases z), fun _ => ⟨true, T.m_InvalidNumber_InvalidNumber, fun _ a na => ?_, fun z => (by cases z)⟩⟩⟩
      exact ⟨.ref a, rfl, rfl, rfl, dd, v, rfl, hd, v, z, rfl, hz, _, _, rfl, rfl, hlen, (show 2 ≤ sizeLine by decide), fun p hp => hQ p hp⟩
    · refine ⟨false, T.m_Refused_InvalidPoly, fun z => (by cases z), fun _ => ⟨false, T.m_Refused_InvalidOperation, fun z => (by cases z), fun _ => ⟨false, T.m_Refused_InvalidNumber, fun z => (by cases z), fun _ => ⟨true, T.m_Refused_Refused, fun _ a na => ?_, fun z => (by cases z)⟩⟩⟩⟩
      exact ⟨.ref a, rfl, rfl, rfl, dd, v, rfl, hd, v, z, rfl, hz, _, _, rfl, rfl, hlen, (show 2 ≤ sizeLine by decide), fun p hp => hQ p hp⟩
theorem met_poly {K : PySem.W.Frag} {H : Hp} {Q : VK} {tl : XK → Hp → VK → Prop} (h : ∀ E Q', Raise0 K E H "InvalidPoly" → tl E H Q')
    (hq : ∀ q H', Same H H' → H' q = some (.tup [.str "refused", .str "poly"]) → Q (.ref q) H') : TMet K tl H Q := by
  refine h _ _ fun H' s => .inl ⟨rfl, fun q hn => ?_⟩
  exact hq q _ (same_new s hn) upd_same
theorem met_operation {K : PySem.W.Frag} {H : Hp} {Q : VK} {tl : XK → Hp → VK → Prop} (h : ∀ E Q', Raise0 K E H "InvalidOperation" → tl E H Q')
    (hq : ∀ q H', Same H H' → H' q = some (.tup [.str "refused", .str "operation"]) → Q (.ref q) H') : TMet K tl H Q := by
  refine h _ _ fun H' s => .inr (.inl ⟨rfl, fun q hn => ?_⟩)
  exact hq q _ (same_new s hn) upd_same
theorem met_number {K : PySem.W.Frag} {no : List Addr} {d : PyData} {v : V} {H : Hp} {Q : VK} {tl : XK → Hp → VK → Prop} (p : Pl H no d v) (r : shwOk "number " d = true) (h : ∀ E Q', RaiseF K E H "InvalidNumber" "given" v → tl E H Q')
    (hq : ∀ q H', Same H H' → H' q = some (.tup [.str "refused", .str (("number " : Str) ++ d.shown)]) → Q (.ref q) H') : TMet K tl H Q := by
  unfold shwOk at r
  rw [Bool.and_eq_true, Bool.and_eq_true, decide_eq_true_eq] at r
  refine h _ _ fun H' dd s hd => .inr (.inr (.inl ⟨rfl, dd, v, d.shown, rfl, upd_same, ((p.same s).same (same_upd hd)).rep r.1.1, r.1.2, fun q hn => ?_⟩))
  exact hq q _ (s.trans (same_new (same_upd hd) hn)) upd_same
theorem met_reason {K : PySem.W.Frag} {no : List Addr} {d : PyData} {v : V} {H : Hp} {Q : VK} {tl : XK → Hp → VK → Prop} (p : Pl H no d v) (r : shwOk "reason " d = true) (h : ∀ E Q', RaiseF K E H "Refused" "reason" v → tl E H Q')
    (hq : ∀ q H', Same H H' → H' q = some (.tup [.str "refused", .str (("reason " : Str) ++ d.shown)]) → Q (.ref q) H') : TMet K tl H Q := by
  unfold shwOk at r
  rw [Bool.and_eq_true, Bool.and_eq_true, decide_eq_true_eq] at r
  refine h _ _ fun H' dd s hd => .inr (.inr (.inr (⟨rfl, dd, v, d.shown, rfl, upd_same, ((p.same s).same (same_upd hd)).rep r.1.1, r.1.2, fun q hn => ?_⟩)))
  exact hq q _ (s.trans (same_new (same_upd hd) hn)) upd_same
theorem met_let {K : PySem.W.Frag} {H : Hp} {Q : VK} {tl : XK → Hp → VK → Prop} (h : ∀ E Q', (∀ v H', Same H H' → Q' v H') → tl E H Q')
    (hq : ∀ q H', Same H H' → H' q = some (.tup [.str "refused", .str "fine"]) → Q (.ref q) H') : TMet K tl H Q := by
  refine h _ _ fun v H' s => ⟨by decide, fun q hn => ?_⟩
  exact hq q _ (same_new s hn) upd_same
/-- v is the plain d, may be shown -/
def Odd (H : Hp) (no : List Addr) (v : V) (d : PyData) : Prop := Pl H no d v ∧ True
/-- what stays the same behind the picks -/
structure Cxt (K : PySem.W.Frag) (D : Addr) (H0 : Hp) (no : List Addr) (vs : List (V × PyData)) (H : Hp) : Prop where
  kn : KN (D :: no) H0 H
  tb : LamX.Tabs (Ts K) H
  dice : Dice H D
  dn : D ∉ no
  odd : ∀ q ∈ vs, Odd H (D :: no) q.1 q.2
theorem Dice.ext {H H1 : Hp} {D : Addr} (h : Dice H D) (e : LamX.ExtN H H1) : Dice H1 D := by
  obtain ⟨x, y, z, h⟩ := h
  exact ⟨x, y, z, e D _ h (fun _ w => by cases w)⟩
theorem Cxt.ext {K : PySem.W.Frag} {D : Addr} {H0 H H1 : Hp} {no : List Addr} {vs : List (V × PyData)} (c : Cxt K D H0 no vs H) (e : LamX.ExtN H H1) (t : LamX.Tabs (Ts K) H1) : Cxt K D H0 no vs H1 :=
  ⟨c.kn.trans (KN.ext e), t, c.dice.ext e, c.dn, fun q hq => ⟨(c.odd q hq).1.mono (KN.ext e), (c.odd q hq).2⟩⟩
theorem Cxt.same {K : PySem.W.Frag} {D : Addr} {H0 H H1 : Hp} {no : List Addr} {vs : List (V × PyData)} (c : Cxt K D H0 no vs H) (e : Same H H1) : Cxt K D H0 no vs H1 := c.ext (ExtN.same e) (c.tb.ext fun b o h => e b o h)
theorem Cxt.keep {K : PySem.W.Frag} {D : Addr} {H0 H H1 : Hp} {no : List Addr} {vs : List (V × PyData)} (c : Cxt K D H0 no vs H) (k : Keep D H H1) (d : Dice H1 D) : Cxt K D H0 no vs H1 := by
  have kn : KN (D :: no) H H1 := fun b o n e _ => k b o (fun z => n (z ▸ List.mem_cons_self)) e
  obtain ⟨x, y, z, hd⟩ := c.dice
  exact ⟨c.kn.trans kn, Tabs.keep c.tb hd k, d, c.dn, fun q hq => ⟨(c.odd q hq).1.mono kn, (c.odd q hq).2⟩⟩
/-- a list that is made, and may change -/
theorem Cxt.list {K : PySem.W.Frag} {D L : Addr} {H0 H : Hp} {no : List Addr} {vs : List (V × PyData)} {xs : List V} (c : Cxt K D H0 no vs H) (n : H L = none) : Cxt K D H0 (L :: no) vs (upd H L (.lst xs)) := by
  have c1 := c.same (same_upd (o := .lst xs) n)
  obtain ⟨x, y, z, hd⟩ := c.dice
  refine ⟨c1.kn.less fun b hb => ?_, c1.tb, c1.dice, fun hm => ?_, fun q hq => ⟨?_, (c1.odd q hq).2⟩⟩
  · rcases List.mem_cons.mp hb with e | e
    · exact e ▸ List.mem_cons_self
    · exact List.mem_cons_of_mem _ (List.mem_cons_of_mem _ e)
  · rcases List.mem_cons.mp hm with e | e
    · rw [e, n] at hd; cases hd
    · exact c.dn e
  · have p := Pl.fresh n q.2 q.1 (c.odd q hq).1
    have p2 := p.mono (KN.new (o := .lst xs) n)
    exact p2.perm fun b hb => by
      rcases List.mem_cons.mp hb with e | e
      · exact e ▸ List.mem_cons_of_mem _ List.mem_cons_self
      · rcases List.mem_cons.mp e with e | e
        · exact e ▸ List.mem_cons_self
        · exact List.mem_cons_of_mem _ (List.mem_cons_of_mem _ e)
theorem Cxt.put {K : PySem.W.Frag} {D L : Addr} {H0 H : Hp} {no : List Addr} {vs : List (V × PyData)} {xs ys : List V} (c : Cxt K D H0 no vs H) (hl : L ∈ no) (h : H L = some (.lst xs)) : Cxt K D H0 no vs (upd H L (.lst ys)) := by
  have kn : KN (D :: no) H (upd H L (.lst ys)) := KN.put (List.mem_cons_of_mem _ hl)
  have hne : D ≠ L := fun e => c.dn (e ▸ hl)
  obtain ⟨x, y, z, hd⟩ := c.dice
  refine ⟨c.kn.trans kn, Tabs.keep c.tb h (fun b o n e => by rw [upd_ne n]; exact e), ⟨x, y, z, by rw [upd_ne hne]; exact hd⟩, c.dn, fun q hq => ⟨(c.odd q hq).1.mono kn, (c.odd q hq).2⟩⟩
/-- the list of words so far -/
structure Wds (K : PySem.W.Frag) (D : Addr) (H0 : Hp) (no : List Addr) (vs : List (V × PyData)) (L : Addr) (ws : List (List Str)) (H : Hp) : Prop where
  c : Cxt K D H0 no vs H
  l : L ∈ no
  t : Told H L ws
theorem Keep.kn {D : Addr} {H H' : Hp} (k : Keep D H H') : KN [D] H H' := fun b o n e _ => k b o (fun z => n (z ▸ List.mem_cons_self)) e
theorem Cxt.restart {K : PySem.W.Frag} {D : Addr} {H0 H : Hp} {no : List Addr} {vs : List (V × PyData)} (c : Cxt K D H0 no vs H) : Cxt K D H no vs H := ⟨KN.refl _ _, c.tb, c.dice, c.dn, c.odd⟩
theorem Cxt.back {K : PySem.W.Frag} {D : Addr} {H0 H H1 : Hp} {no : List Addr} {vs : List (V × PyData)} (c : Cxt K D H no vs H1) (k : KN (D :: no) H0 H) : Cxt K D H0 no vs H1 := ⟨k.trans c.kn, c.tb, c.dice, c.dn, c.odd⟩
/-- L was not there before -/
def New (H0 : Hp) (D : Addr) (no : List Addr) (L : Addr) : Prop := ∀ o, H0 L = some o → L ∈ D :: no ∨ ∃ ps, o = .tbl ps
theorem Cxt.new {K : PySem.W.Frag} {D L : Addr} {H0 H : Hp} {no : List Addr} {vs : List (V × PyData)} (c : Cxt K D H0 no vs H) (n : H L = none) : New H0 D no L := fun o e => by
  refine Classical.byContradiction fun h => ?_
  have h1 : L ∉ D :: no := fun z => h (.inl z)
  have h2 := c.kn L o h1 e (fun ps z => h (.inr ⟨ps, z⟩))
  rw [n] at h2
  cases h2
theorem New.ne {H0 : Hp} {D L W : Addr} {no : List Addr} {xs : List V} (n : New H0 D no L) (h : H0 W = some (.tup xs)) (hw : W ∉ D :: no) : W ≠ L := fun e => by
  subst e
  rcases n _ h with z | ⟨ps, z⟩
  · exact hw z
  · cases z
theorem Cxt.drop {K : PySem.W.Frag} {D L : Addr} {H0 H : Hp} {no : List Addr} {vs : List (V × PyData)} (c : Cxt K D H0 (L :: no) vs H) (n : New H0 D no L) : Cxt K D H0 no vs H := by
  refine ⟨fun b o hb e t => c.kn b o (fun z => ?_) e t, c.tb, c.dice, fun z => c.dn (List.mem_cons_of_mem _ z), fun q hq => ⟨(c.odd q hq).1.perm fun b hb => ?_, (c.odd q hq).2⟩⟩
  · rcases List.mem_cons.mp z with y | y
    · exact hb (y ▸ List.mem_cons_self)
    · rcases List.mem_cons.mp y with y | y
      · subst y
        rcases n o e with w | ⟨ps, w⟩
        · exact hb w
        · exact t ps w
      · exact hb (List.mem_cons_of_mem _ y)
  · rcases List.mem_cons.mp hb with y | y
    · exact y ▸ List.mem_cons_self
    · exact List.mem_cons_of_mem _ (List.mem_cons_of_mem _ y)
theorem eqv_strs : ∀ ss : List Str, PyData.eqvAll (ss.map PyData.str) (ss.map PyData.str) = true
  | [] => by rw [List.map_nil, PyData.eqvAll]
  | s :: ss => by rw [List.map_cons, PyData.eqvAll, eqv_strs ss, PyData.eqv]; simp
theorem eqv_tsd : ∀ ws : List (List Str), PyData.eqvAll (tsD ws) (tsD ws) = true
  | [] => by rw [tsD, List.map_nil, PyData.eqvAll]
  | s :: ss => by
    have ih := eqv_tsd ss
    unfold tsD at ih ⊢
    rw [List.map_cons, PyData.eqvAll, ih, PyData.eqv, eqv_strs]
    rfl
theorem eqv_refl_ts (ws : List (List Str)) : PyData.eqv (.list (tsD ws)) (.list (tsD ws)) = true := by
  rw [PyData.eqv]
  exact eqv_tsd ws
/-- told != due, where both have the same words -/
theorem ne_told {K : PySem.W.Frag} {L M : Addr} {ws : List (List Str)} {H : Hp} {Q : VK} (t : Told H L ws) (u : Told H M ws) (q : Q (.bl false) H) : rNeD K (.ref L) (.ref M) H Q := by
  refine ⟨_, _, t.dp, u.dp, t.shaped, u.shaped, ?_⟩
  rw [eqv_refl_ts]
  exact q
theorem eq_told {K : PySem.W.Frag} {L M : Addr} {ws : List (List Str)} {H : Hp} {Q : VK} (t : Told H L ws) (u : Told H M ws) (q : Q (.bl true) H) : rEqD K (.ref L) (.ref M) H Q := by
  refine ⟨_, _, t.dp, u.dp, t.shaped, u.shaped, ?_⟩
  rw [eqv_refl_ts]
  exact q
/-- told.append(_law_fault(lambda: ..)) -/
theorem app_any {K : PySem.W.Frag} {D L : Addr} {H0 H : Hp} {no : List Addr} {vs : List (V × PyData)} {ws : List (List Str)} {w : List Str} {tl : XK → Hp → VK → Prop} {R : V → Hp → Prop} (s : Wds K D H0 no vs L ws H) (hl : ws.length < 1000) (hw : w.all PyData.strOk = true)
    (h : ∀ H1 Q', Cxt K D H0 no vs H1 → (∀ q H', Same H1 H' → H' q = some (.tup (w.map V.str)) → Q' (.ref q) H') → TMet K tl H1 Q') (hr : ∀ H3, Wds K D H0 no vs L (ws ++ [w]) H3 → R .non H3) :
    tyV K "list" (V.ref L) H ∧ LamX.Tabs (Ts K) H ∧ ∀ H1, LamX.ExtN H H1 → LamX.Tabs (Ts K) H1 → TMet K tl H1 fun x H2 => rAppend (V.ref L) [x] H2 R := by
  obtain ⟨xs, hL, hx⟩ := s.t
  refine ⟨.inl ⟨rfl, xs, sqL_of hL⟩, s.c.tb, fun H1 e1 t1 => ?_⟩
  have c1 := s.c.ext e1 t1
  refine h H1 _ c1 fun q H2 s2 hq => ?_
  have e2 : LamX.ExtN H H2 := e1.trans (ExtN.same s2)
  obtain ⟨xs2, hL2, hx2⟩ := s.t.ext e2
  have c2 := c1.same s2
  refine ⟨L, xs2, .ref q, rfl, rfl, hL2, ?_, hr _ ⟨c2.put s.l hL2, s.l, Told.put hL2 hx2 (ss := w) hq hw⟩⟩
  have := hx2.len
  rw [sizeLine_eq]
  omega
theorem plN {H : Hp} {no : List Addr} : PlAll H no [] [] := by rw [PlAll]
theorem plC {H : Hp} {no : List Addr} {d : PyData} {ds : List PyData} {x : V} {xs : List V} (h : Pl H no d x) (q : PlAll H no ds xs) : PlAll H no (d :: ds) (x :: xs) := by
  rw [PlAll]
  exact ⟨x, xs, rfl, h, q⟩
theorem plRep {H : Hp} {no : List Addr} {d : PyData} {x : V} (h : Pl H no d x) : ∀ n : Nat, PlAll H no (List.replicate n d) (List.replicate n x)
  | 0 => plN
  | n + 1 => plC h (plRep h n)
theorem keep_new {H : Hp} {b p : Addr} {u o : HO} (h : H b = some u) (hn : H p = none) : upd H p o b = some u := by
  rw [upd_ne (ne_of_none h hn)]; exact h
local macro_rules | `(tactic| walk_at "at") => `(tactic| (repeat (first | exact upd_same | assumption | refine keep_new ?_ (by assumption))))
local macro_rules | `(tactic| walk_at "ss") => `(tactic| (repeat (first | exact Same.refl _ | assumption | refine Same.trans ?_ (by assumption))))
abbrev gW (d : PyData) : List Str := ["refused", ("ground " : Str) ++ d.shown]
abbrev nW (d : PyData) : List Str := ["refused", ("number " : Str) ++ d.shown]
theorem gW_ok {d : PyData} (r : shwOk "ground " d = true) : (gW d).all PyData.strOk = true := by
  unfold shwOk at r
  rw [Bool.and_eq_true] at r
  simp only [List.all_cons, List.all_nil, r.2, Bool.and_true]
  decide +kernel
theorem nW_ok {d : PyData} (r : shwOk "number " d = true) : (nW d).all PyData.strOk = true := by
  unfold shwOk at r
  rw [Bool.and_eq_true] at r
  simp only [List.all_cons, List.all_nil, r.2, Bool.and_true]
  decide +kernel
/-- a list of words that is not changed -/
theorem Told.kn {H H' : Hp} {M : Addr} {ws : List (List Str)} {no : List Addr} (t : Told H M ws) (k : KN no H H') (hM : M ∉ no) (hno : ∀ b ∈ no, ∃ xs, H b = some (.lst xs)) : Told H' M ws := by
  obtain ⟨xs, h, r⟩ := t
  refine ⟨xs, k M _ hM h (fun _ z => by cases z), r.mono fun p ys q => k p _ (fun z => ?_) q (fun _ z => by cases z)⟩
  obtain ⟨zs, e⟩ := hno p z
  rw [e] at q
  cases q
theorem Wds.restart {K : PySem.W.Frag} {D : Addr} {H0 H : Hp} {no : List Addr} {vs : List (V × PyData)} {L : Addr} {ws : List (List Str)} (s : Wds K D H0 no vs L ws H) : Wds K D H no vs L ws H := ⟨s.c.restart, s.l, s.t⟩
theorem Wds.same {K : PySem.W.Frag} {D : Addr} {H0 H H' : Hp} {no : List Addr} {vs : List (V × PyData)} {L : Addr} {ws : List (List Str)} (s : Wds K D H0 no vs L ws H) (e : Same H H') : Wds K D H0 no vs L ws H' := ⟨s.c.same e, s.l, s.t.same e⟩
theorem Wds.lists {K : PySem.W.Frag} {D : Addr} {H0 H : Hp} {vs : List (V × PyData)} {L : Addr} {ws : List (List Str)} (s : Wds K D H0 [L] vs L ws H) : ∀ b ∈ [D, L], ∃ xs, H b = some (.lst xs) := fun b hb => by
  simp only [List.mem_cons, List.not_mem_nil, or_false] at hb
  rcases hb with rfl | rfl
  · obtain ⟨_, _, _, e⟩ := s.c.dice
    exact ⟨_, e⟩
  · obtain ⟨xs, e, _⟩ := s.t
    exact ⟨_, e⟩
theorem Wds.new {K : PySem.W.Frag} {D : Addr} {H0 H : Hp} {vs : List (V × PyData)} {L p : Addr} {ws : List (List Str)} (s : Wds K D H0 [L] vs L ws H) (hp : H p = none) : p ∉ [D, L] := fun hb => by
  obtain ⟨xs, e⟩ := s.lists p hb
  rw [hp] at e
  cases e
theorem TS1.rep {H : Hp} {xs : List V} {ws : List (List Str)} (r : TS1 H xs ws) : ∀ n : Nat, TS1 H (List.replicate n xs).flatten (List.replicate n ws).flatten
  | 0 => .nil
  | n + 1 => by
    rw [List.replicate_succ, List.replicate_succ, List.flatten_cons, List.flatten_cons]
    exact r.app (TS1.rep r n)
theorem TS1.same {H H' : Hp} {xs : List V} {ws : List (List Str)} (r : TS1 H xs ws) (s : Same H H') : TS1 H' xs ws := r.mono fun p ys h => s _ _ h
theorem TS1.take {H : Hp} {xs : List V} {ws : List (List Str)} (r : TS1 H xs ws) (n : Nat) : TS1 H (xs.take n) (ws.take n) := by
  unfold TS1 at r ⊢
  induction r generalizing n with
  | nil => rw [List.take_nil, List.take_nil]; exact .nil
  | cons h _ ih =>
    cases n with
    | zero => exact .nil
    | succ n => exact .cons h (ih n)
theorem ts_one {H : Hp} {q : Addr} {w : List Str} (h : H q = some (.tup (w.map V.str))) (k : w.all PyData.strOk = true) : TS1 H [V.ref q] [w] := .cons ⟨q, rfl, h, k⟩ .nil
theorem fin12 {D L : Addr} {H H1 H3 H4 H9 Hf : Hp} (c : KN [D] H H1) (hL : H1 L = none) (s : Same H1 H3) (k : KN [D, L] H3 H4) (s2 : Same H4 H9) (kf : KN [D, L] H9 Hf) : KN [D] H Hf := fun b o hb e t => by
  have e1 := c b o hb e t
  have nb : b ∉ [D, L] := fun z => by
    rcases List.mem_cons.mp z with z | z
    · exact hb (z ▸ List.mem_cons_self)
    · rw [List.mem_singleton.mp z, hL] at e1; cases e1
  exact kf b o nb (s2 _ _ (k b o nb (s _ _ e1) t)) t
theorem sqL_kn {K : PySem.W.Frag} {H H' : Hp} {D a : Addr} {xs : List V} (h : SqL K H a xs) (n : H D = none) (k : KN [D] H H') : SqL K H' a xs := by
  have step : ∀ o, H a = some o → (∀ ps, o ≠ .tbl ps) → H' a = some o := fun o e t => k a o (fun z => by
    have : a = D := by simpa using z
    subst this
    rw [n] at e
    cases e) e t
  rcases h with (h | ⟨o, h⟩) | h
  · exact .inl (.inl (step _ h (fun _ z => by cases z)))
  · exact .inl (.inr ⟨o, step _ h (fun _ z => by cases z)⟩)
  · exact .inr h
/-- the words so far, where there are no dice -/
structure Wd0 (K : PySem.W.Frag) (L : Addr) (ws : List (List Str)) (H : Hp) : Prop where
  tb : LamX.Tabs (Ts K) H
  t : Told H L ws
theorem app0 {K : PySem.W.Frag} {L : Addr} {H : Hp} {ws : List (List Str)} {w : List Str} {tl : XK → Hp → VK → Prop} {R : V → Hp → Prop} (s : Wd0 K L ws H) (hl : ws.length < 1000) (hw : w.all PyData.strOk = true)
    (h : ∀ H1 Q, (∀ q H2, Same H1 H2 → H2 q = some (.tup (w.map V.str)) → Q (V.ref q) H2) → TMet K tl H1 Q) (hr : ∀ H3, Wd0 K L (ws ++ [w]) H3 → R .non H3) :
    tyV K "list" (V.ref L) H ∧ LamX.Tabs (Ts K) H ∧ ∀ H1, LamX.ExtN H H1 → LamX.Tabs (Ts K) H1 → TMet K tl H1 fun x H2 => rAppend (V.ref L) [x] H2 R := by
  obtain ⟨xs, hL, hx⟩ := s.t
  refine ⟨.inl ⟨rfl, xs, sqL_of hL⟩, s.tb, fun H1 e1 t1 => h H1 _ fun q H2 s2 hq => ?_⟩
  obtain ⟨xs2, hL2, hx2⟩ := s.t.ext (e1.trans (ExtN.same s2))
  refine ⟨L, xs2, .ref q, rfl, rfl, hL2, ?_, hr _ ⟨Tabs.keep (t1.ext fun b o e => s2 b o e) hL2 (fun b o n e => by rw [upd_ne n]; exact e), Told.put hL2 hx2 hq hw⟩⟩
  have := hx2.len
  rw [sizeLine_eq]
  omega
theorem first0 {K : PySem.W.Frag} {H : Hp} {w : List Str} {tl : XK → Hp → VK → Prop} {R : V → Hp → Addr → Prop} (tb : LamX.Tabs (Ts K) H) (hw : w.all PyData.strOk = true)
    (h : ∀ H1 Q, (∀ q H2, Same H1 H2 → H2 q = some (.tup (w.map V.str)) → Q (V.ref q) H2) → TMet K tl H1 Q) (hr : ∀ L q H3, Wd0 K L [w] (upd H3 L (.lst [.ref q])) → R (.ref q) H3 L) :
    LamX.Tabs (Ts K) H ∧ ∀ H1, LamX.ExtN H H1 → LamX.Tabs (Ts K) H1 → TMet K tl H1 fun x H2 => 1 ≤ sizeLine ∧ ∀ p, H2 p = none → R x H2 p := by
  refine ⟨tb, fun H1 e1 t1 => h H1 _ fun q H2 s2 hq => ⟨by decide, fun L hn => hr L q _ ⟨(t1.ext fun b o e => s2 b o e).ext fun b o e => same_upd hn b o e, [.ref q], upd_same, ?_⟩⟩⟩
  exact .cons ⟨q, rfl, same_upd hn _ _ hq, hw⟩ .nil
abbrev lW : List Str := ["refused", "fine"]
/-- the words so far, and a value that stands -/
structure Wd1 (K : PySem.W.Frag) (L : Addr) (ws : List (List Str)) (d : PyData) (v : V) (H : Hp) : Prop where
  tb : LamX.Tabs (Ts K) H
  t : Told H L ws
  p : Pl H [L] d v
theorem app1 {K : PySem.W.Frag} {L : Addr} {H : Hp} {ws : List (List Str)} {w : List Str} {d : PyData} {v : V} {tl : XK → Hp → VK → Prop} {R : V → Hp → Prop} (s : Wd1 K L ws d v H) (hl : ws.length < 1000) (hw : w.all PyData.strOk = true)
    (h : ∀ H1 Q, LamX.ExtN H H1 → (∀ q H2, Same H1 H2 → H2 q = some (.tup (w.map V.str)) → Q (V.ref q) H2) → TMet K tl H1 Q) (hr : ∀ H3, Wd1 K L (ws ++ [w]) d v H3 → R .non H3) :
    tyV K "list" (V.ref L) H ∧ LamX.Tabs (Ts K) H ∧ ∀ H1, LamX.ExtN H H1 → LamX.Tabs (Ts K) H1 → TMet K tl H1 fun x H2 => rAppend (V.ref L) [x] H2 R := by
  obtain ⟨xs, hL, hx⟩ := s.t
  refine ⟨.inl ⟨rfl, xs, sqL_of hL⟩, s.tb, fun H1 e1 t1 => h H1 _ e1 fun q H2 s2 hq => ?_⟩
  obtain ⟨xs2, hL2, hx2⟩ := s.t.ext (e1.trans (ExtN.same s2))
  refine ⟨L, xs2, .ref q, rfl, rfl, hL2, ?_, hr _ ⟨Tabs.keep (t1.ext fun b o e => s2 b o e) hL2 (fun b o n e => by rw [upd_ne n]; exact e), Told.put hL2 hx2 hq hw, ?_⟩⟩
  · have := hx2.len
    rw [sizeLine_eq]
    omega
  · exact Pl.mono (KN.put (by simp)) _ _ (Pl.mono (KN.ext (e1.trans (ExtN.same s2))) _ _ s.p)
theorem first1 {K : PySem.W.Frag} {H : Hp} {w : List Str} {d : PyData} {v : V} {tl : XK → Hp → VK → Prop} {R : V → Hp → Addr → Prop} (tb : LamX.Tabs (Ts K) H) (p : Pl H [] d v) (hw : w.all PyData.strOk = true)
    (h : ∀ H1 Q, LamX.ExtN H H1 → (∀ q H2, Same H1 H2 → H2 q = some (.tup (w.map V.str)) → Q (V.ref q) H2) → TMet K tl H1 Q) (hr : ∀ L q H3, Wd1 K L [w] d v (upd H3 L (.lst [.ref q])) → R (.ref q) H3 L) :
    LamX.Tabs (Ts K) H ∧ ∀ H1, LamX.ExtN H H1 → LamX.Tabs (Ts K) H1 → TMet K tl H1 fun x H2 => 1 ≤ sizeLine ∧ ∀ p, H2 p = none → R x H2 p := by
  refine ⟨tb, fun H1 e1 t1 => h H1 _ e1 fun q H2 s2 hq => ⟨by decide, fun L hn => hr L q _ ⟨(t1.ext fun b o e => s2 b o e).ext fun b o e => same_upd hn b o e, ⟨[.ref q], upd_same, ?_⟩, ?_⟩⟩⟩
  · exact .cons ⟨q, rfl, same_upd hn _ _ hq, hw⟩ .nil
  · exact (Pl.fresh hn _ _ (Pl.mono (KN.ext (e1.trans (ExtN.same s2))) _ _ p)).same (same_upd hn)
theorem rep_all2 {α β : Type} {R : α → β → Prop} {x : α} {q : β} (h : R x q) (n : Nat) : All2 R (List.replicate n x) (List.replicate n q) := by
  refine ⟨by simp, fun i v r hv hr => ?_⟩
  rw [List.getElem?_replicate] at hv hr
  split at hv
  · rw [if_pos (by assumption)] at hr
    cases hv; cases hr; exact h
  · cases hv
theorem plT0 {H : Hp} {p : Addr} {ds : List PyData} {xs : List V} (h : H p = some (.tup xs)) (q : PlAll H [] ds xs) : Pl H [] (.tuple ds) (.ref p) := by
  rw [Pl]
  exact ⟨p, xs, rfl, by simp, h, q⟩
/-- lists, all of them -/
def Lsts (H : Hp) (no : List Addr) : Prop := ∀ b ∈ no, ∃ xs, H b = some (.lst xs)
theorem Lsts.same {H H' : Hp} {no : List Addr} (h : Lsts H no) (s : Same H H') : Lsts H' no := fun b hb => by
  obtain ⟨xs, e⟩ := h b hb
  exact ⟨xs, s _ _ e⟩
theorem Lsts.new {H : Hp} {no : List Addr} {a : Addr} (h : Lsts H no) (n : H a = none) : a ∉ no := fun hb => by
  obtain ⟨xs, e⟩ := h a hb
  rw [n] at e
  cases e
theorem Dice.lsts {H : Hp} {D : Addr} (h : Dice H D) : Lsts H [D] := fun b hb => by
  obtain ⟨_, _, _, e⟩ := h
  rw [List.mem_singleton.mp hb]
  exact ⟨_, e⟩
theorem Lsts.keep {H H' : Hp} {no : List Addr} {D : Addr} (h : Lsts H (D :: no)) (k : Keep D H H') (d : Dice H' D) : Lsts H' (D :: no) := fun b hb => by
  by_cases e : b = D
  · obtain ⟨_, _, _, e2⟩ := d
    exact ⟨_, e ▸ e2⟩
  · obtain ⟨xs, e2⟩ := h b hb
    exact ⟨xs, k _ _ e e2⟩
theorem plT2 {H : Hp} {no : List Addr} {p : Addr} {ds : List PyData} {xs : List V} (hD : Lsts H no) (h : H p = some (.tup xs)) (q : PlAll H no ds xs) : Pl H no (.tuple ds) (.ref p) := by
  rw [Pl]
  refine ⟨p, xs, rfl, fun z => ?_, h, q⟩
  obtain ⟨ys, e⟩ := hD p z
  rw [h] at e
  cases e
theorem plL2 {H : Hp} {no : List Addr} {p : Addr} {ds : List PyData} {xs : List V} (n : p ∉ no) (h : H p = some (.lst xs)) (q : PlAll H no ds xs) : Pl H no (.list ds) (.ref p) := by
  rw [Pl]
  exact ⟨p, xs, rfl, n, h, q⟩
theorem plK2 {H : Hp} {no : List Addr} {p : Addr} (hD : Lsts H no) (h : H p = some (.dK [])) : Pl H no (.dict []) (.ref p) := by
  rw [Pl]
  refine ⟨rfl, p, rfl, fun z => ?_, h⟩
  obtain ⟨ys, e⟩ := hD p z
  rw [h] at e
  cases e
theorem Same.at {H H' : Hp} {a : Addr} {o : HO} (s : Same H H') (h : H a = some o) : H' a = some o := s _ _ h
theorem TS1_nil {H : Hp} : TS1 H [] [] := .nil
theorem TS1_cons {H : Hp} {q : Addr} {w : List Str} {xs : List V} {ws : List (List Str)} (h : H q = some (.tup (w.map V.str))) (k : w.all PyData.strOk = true) (r : TS1 H xs ws) : TS1 H (V.ref q :: xs) (w :: ws) := .cons ⟨q, rfl, h, k⟩ r
theorem due_cat {H : Hp} {M q : Addr} {ds us : List (List Str)} {Q : VK} (t : Told H M ds) (u : Told H q us) (hl : ds.length + us.length < 1000) (k : ∀ p H', H p = none → Same H H' → Told H' p (ds ++ us) → Q (.ref p) H') : rCat (.ref M) (.ref q) H Q := by
  obtain ⟨xs, hx, r⟩ := t
  obtain ⟨ys, hy, r2⟩ := u
  refine ⟨M, q, xs, ys, rfl, rfl, hx, hy, ?_, fun p hp => k p _ hp (same_upd hp) ⟨_, upd_same, (r.app r2).same (same_upd hp)⟩⟩
  rw [r.len, r2.len, sizeLine_eq]
  omega
theorem Wds.back {K : PySem.W.Frag} {D : Addr} {H0 H H1 : Hp} {vs : List (V × PyData)} {L : Addr} {ws : List (List Str)} (s : Wds K D H [L] vs L ws H1) (k : KN (D :: [L]) H0 H) : Wds K D H0 [L] vs L ws H1 := ⟨s.c.back k, s.l, s.t⟩
theorem Wds.keep {K : PySem.W.Frag} {D : Addr} {H0 H H1 : Hp} {vs : List (V × PyData)} {L : Addr} {ws : List (List Str)} (s : Wds K D H0 [L] vs L ws H) (k : Keep D H H1) (d : Dice H1 D) : Wds K D H0 [L] vs L ws H1 :=
  ⟨s.c.keep k d, s.l, s.t.kn k.kn (fun h => s.c.dn (List.mem_singleton.mpr (List.mem_singleton.mp h).symm)) (Dice.lsts s.c.dice)⟩
theorem Wds.add {K : PySem.W.Frag} {D : Addr} {H0 H : Hp} {no : List Addr} {vs : List (V × PyData)} {L : Addr} {ws : List (List Str)} {v : V} {d : PyData} (s : Wds K D H0 no vs L ws H) (p : Pl H (D :: no) d v) : Wds K D H0 no ((v, d) :: vs) L ws H :=
  ⟨⟨s.c.kn, s.c.tb, s.c.dice, s.c.dn, fun q hq => by
    rcases List.mem_cons.mp hq with e | e
    · rw [e]; exact ⟨p, trivial⟩
    · exact s.c.odd q e⟩, s.l, s.t⟩
/-- told and due have the same words -/
def Eqw (K : PySem.W.Frag) (D : Addr) (H0 : Hp) (L M : Addr) (vs : List (V × PyData)) (n : Nat) (H : Hp) : Prop := ∃ ws, ws.length ≤ n ∧ Wds K D H0 [L] vs L ws H ∧ Told H M ws ∧ M ∉ [D, L]
theorem Eqw.same {K : PySem.W.Frag} {D : Addr} {H0 H H' : Hp} {L M : Addr} {vs : List (V × PyData)} {n : Nat} (e : Eqw K D H0 L M vs n H) (s : Same H H') : Eqw K D H0 L M vs n H' := by
  obtain ⟨ws, h, w, t, m⟩ := e
  exact ⟨ws, h, w.same s, t.same s, m⟩
theorem Eqw.restart {K : PySem.W.Frag} {D : Addr} {H0 H : Hp} {L M : Addr} {vs : List (V × PyData)} {n : Nat} (e : Eqw K D H0 L M vs n H) : Eqw K D H L M vs n H := by
  obtain ⟨ws, h, w, t, m⟩ := e
  exact ⟨ws, h, w.restart, t, m⟩
theorem Eqw.kn {K : PySem.W.Frag} {D : Addr} {H0 H : Hp} {L M : Addr} {vs : List (V × PyData)} {n : Nat} (e : Eqw K D H0 L M vs n H) : KN [D, L] H0 H := by
  obtain ⟨ws, h, w, t, m⟩ := e
  exact w.c.kn
theorem Eqw.at {K : PySem.W.Frag} {D : Addr} {H0 H : Hp} {L M p : Addr} {vs : List (V × PyData)} {n : Nat} {fs : List V} (e : Eqw K D H0 L M vs n H) (h : H0 p = some (.tup fs)) (np : p ∉ [D, L]) : H p = some (.tup fs) := e.kn p _ np h (fun _ z => by cases z)
open LamX in
theorem met_ref {K : PySem.W.Frag} {H : Hp} {Q : VK} {tl : XK → Hp → VK → Prop} {n : Int} (r : shwOk "reason " (.tuple [.str "roots", .int n]) = true) (h : ∀ E Q', RefR K E H n → tl E H Q')
    (hq : ∀ q H', Same H H' → H' q = some (.tup [.str "refused", .str (("reason " : Str) ++ (PyData.tuple [.str "roots", .int n]).shown)]) → Q (.ref q) H') : TMet K tl H Q := by
  unfold shwOk at r
  rw [Bool.and_eq_true, Bool.and_eq_true, decide_eq_true_eq] at r
  refine h _ _ fun p H1 s1 hp H' dd s hd => .inr (.inr (.inr ⟨rfl, dd, .ref p, _, rfl, upd_same, (((plT0 hp (plC (by rw [Pl]) (plC (by rw [Pl]) plN)) : Pl H1 [] (.tuple [.str "roots", .int n]) (.ref p)).same s).same (same_upd hd)).rep r.1.1, r.1.2, fun q hn => ?_⟩))
  exact hq q _ ((s1.trans s).trans (same_new (same_upd hd) hn)) upd_same
abbrev rf (s : Str) : List Str := ["refused", s]
abbrev pW : List Str := ["refused", "poly"]
abbrev oW : List Str := ["refused", "operation"]
abbrev rW (n : Int) : List Str := ["refused", ("reason " : Str) ++ (PyData.tuple [.str "roots", .int n]).shown]
/-- the words told, and the list of what is due -/
structure W3 (K : PySem.W.Frag) (D : Addr) (H0 : Hp) (vs : List (V × PyData)) (L M : Addr) (ws : List (List Str)) (ss : List Str) (H : Hp) : Prop where
  c : Cxt K D H0 [M, L] vs H
  t : Told H L ws
  m : H M = some (.lst (ss.map V.str))
  ne : L ≠ M
section
variable {K : PySem.W.Frag} {D L M : Addr} {H0 H H' : Hp} {vs : List (V × PyData)} {ws : List (List Str)} {ss : List Str}
theorem W3.same (s : W3 K D H0 vs L M ws ss H) (e : Same H H') : W3 K D H0 vs L M ws ss H' := ⟨s.c.same e, s.t.same e, e _ _ s.m, s.ne⟩
theorem W3.restart (s : W3 K D H0 vs L M ws ss H) : W3 K D H vs L M ws ss H := ⟨s.c.restart, s.t, s.m, s.ne⟩
theorem W3.back (s : W3 K D H vs L M ws ss H') (k : KN [D, M, L] H0 H) : W3 K D H0 vs L M ws ss H' := ⟨s.c.back k, s.t, s.m, s.ne⟩
theorem app3 {w : List Str} {tl : XK → Hp → VK → Prop} {R : V → Hp → Prop} (s : W3 K D H0 vs L M ws ss H) (hl : ws.length < 1000) (hw : w.all PyData.strOk = true)
    (h : ∀ H1 Q', Cxt K D H0 [M, L] vs H1 → (∀ q H', Same H1 H' → H' q = some (.tup (w.map V.str)) → Q' (.ref q) H') → TMet K tl H1 Q') (hr : ∀ H3, W3 K D H0 vs L M (ws ++ [w]) ss H3 → R .non H3) :
    tyV K "list" (V.ref L) H ∧ LamX.Tabs (Ts K) H ∧ ∀ H1, LamX.ExtN H H1 → LamX.Tabs (Ts K) H1 → TMet K tl H1 fun x H2 => rAppend (V.ref L) [x] H2 R := by
  obtain ⟨xs, hL, hx⟩ := s.t
  refine ⟨.inl ⟨rfl, xs, sqL_of hL⟩, s.c.tb, fun H1 e1 t1 => ?_⟩
  have c1 := s.c.ext e1 t1
  refine h H1 _ c1 fun q H2 s2 hq => ?_
  have e2 : LamX.ExtN H H2 := e1.trans (ExtN.same s2)
  obtain ⟨xs2, hL2, hx2⟩ := s.t.ext e2
  have c2 := c1.same s2
  have m2 := e2 M _ s.m (fun _ z => by cases z)
  refine ⟨L, xs2, .ref q, rfl, rfl, hL2, ?_, hr _ ⟨c2.put (by simp) hL2, Told.put hL2 hx2 (ss := w) hq hw, by rw [upd_ne s.ne.symm]; exact m2, s.ne⟩⟩
  have := hx2.len
  rw [sizeLine_eq]
  omega
theorem ext3 {us : List Str} {q : Addr} {R : V → Hp → Prop} (s : W3 K D H0 vs L M ws ss H) (hq : H q = some (.lst (us.map V.str))) (hl : ss.length + us.length < 1000) (hr : ∀ H3, W3 K D H0 vs L M ws (ss ++ us) H3 → R .non H3) : rExtend (V.ref M) [V.ref q] H R := by
  obtain ⟨xs, hL, hx⟩ := s.t
  refine ⟨M, q, _, _, rfl, rfl, s.m, hq, by rw [List.length_map, List.length_map, sizeLine_eq]; omega, hr _ ⟨s.c.put (by simp) s.m, ⟨xs, by rw [upd_ne s.ne]; exact hL, hx.mono fun p ys e => ?_⟩, by rw [upd_same, List.map_append], s.ne⟩⟩
  rw [upd_ne (fun z => by subst z; rw [s.m] at e; cases e)]
  exact e
end
theorem due_ok {H : Hp} {L : Addr} : ∀ {ss : List Str}, Told H L (ss.map rf) → ∀ s ∈ ss, PyData.strOk s = true := by
  rintro ss ⟨xs, -, r⟩
  unfold TS1 at r
  induction ss generalizing xs with
  | nil => intro s h; cases h
  | cons a ss ih =>
    rw [List.map_cons] at r
    cases r with
    | cons h1 h2 =>
      intro s hs
      rcases List.mem_cons.mp hs with rfl | hs
      · obtain ⟨p, _, _, k⟩ := h1
        simp only [List.all_cons, List.all_nil, Bool.and_eq_true] at k
        exact k.2.1
      · exact ih _ h2 s hs
theorem comp_due {K : PySem.W.Frag} {M : Addr} {ss : List Str} {g : TG} {te : TE} {vs : List Nat} {σ : St} {H1 : Hp} {Q : VK} (hM : H1 M = some (.lst (ss.map V.str))) (hn : ss.length < 1000) (ok : ∀ s ∈ ss, PyData.strOk s = true)
    (turn : ∀ (z : Str) (H' : Hp), Same H1 H' → ∀ Qo : VK, (∀ T H2, Same H' H2 → H2 T = some (.tup [.str "refused", .str z]) → Qo (.ref T) H2) → g (.str z) (wipe σ vs) H' fun σ2 H2 => wipe σ2 vs = wipe σ vs ∧ te σ2 H2 Qo)
    (fin : ∀ D H', Same H1 H' → Told H' D (ss.map rf) → Q (.ref D) H') : LcW (Itl K M) H1 g tYes te vs σ Q := fun D hD => by
  have key : ∀ i (H' : Hp), (Same H1 H' ∧ Told H' D ((ss.take i).map rf)) → ∀ x, (ss.map V.str)[i]? = some x → g x (wipe σ vs) H' fun σ2 H2 => wipe σ2 vs = wipe σ vs ∧ te σ2 H2 fun y H4 => OutOf D (fun H' => Same H1 H' ∧ Told H' D ((ss.take (i + 1)).map rf)) (some y) H4 := by
    intro i H' hp x hx
    rw [List.getElem?_map] at hx
    obtain ⟨z, hz, rfl⟩ := Option.map_eq_some_iff.mp hx
    have hi := (List.getElem?_eq_some_iff.mp hz).1
    refine turn z H' hp.1 _ fun T H2 s hT => ?_
    obtain ⟨zs, hzs, r⟩ := hp.2.same s
    have hl := r.len
    rw [List.length_map, List.length_take] at hl
    refine ⟨zs, hzs, by rw [sizeLine_eq]; omega, same_mutD (hp.1.trans s) hD, ?_⟩
    have et : ss.take (i + 1) = ss.take i ++ [z] := by rw [List.take_succ, hz]; rfl
    rw [et, List.map_append]
    exact Told.put hzs r (ss := rf z) hT (by simp only [List.all_cons, List.all_nil, ok z (List.mem_of_getElem? hz), Bool.and_true]; decide +kernel)
  exact lc_list (K := K) (a := M) (xs := ss.map V.str) (fun i H' => Same H1 H' ∧ Told H' D ((ss.take i).map rf)) ⟨same_upd hD, [], upd_same, .nil⟩ (fun i H' _ p => sqL_of (p.1 _ _ hM)) (fun i x H' hx p => key i H' p x hx) (fun H' ⟨s, t⟩ => fin D H' s (by rw [List.length_map, List.take_length] at t; exact t))
theorem firstC {K : PySem.W.Frag} {D : Addr} {H0 H : Hp} {vs : List (V × PyData)} {w : List Str} {tl : XK → Hp → VK → Prop} {R : V → Hp → Addr → Prop} (c : Cxt K D H0 [] vs H) (hw : w.all PyData.strOk = true)
    (h : ∀ H1 Q', Cxt K D H0 [] vs H1 → (∀ q H', Same H1 H' → H' q = some (.tup (w.map V.str)) → Q' (.ref q) H') → TMet K tl H1 Q') (hr : ∀ L q H3, New H0 D [] L → Wds K D H0 [L] vs L [w] (upd H3 L (.lst [.ref q])) → R (.ref q) H3 L) :
    LamX.Tabs (Ts K) H ∧ ∀ H1, LamX.ExtN H H1 → LamX.Tabs (Ts K) H1 → TMet K tl H1 fun x H2 => 1 ≤ sizeLine ∧ ∀ p, H2 p = none → R x H2 p := by
  refine ⟨c.tb, fun H1 e1 t1 => ?_⟩
  have c1 := c.ext e1 t1
  refine h H1 _ c1 fun q H2 s2 hq => ⟨by decide, fun L hn => ?_⟩
  have c2 := c1.same s2
  exact hr L q H2 (c2.new hn) ⟨c2.list hn, by simp, [.ref q], upd_same, .cons ⟨q, rfl, same_upd hn _ _ hq, hw⟩ .nil⟩
/-! the data drawn -/
def badB (d : PyData) : Bool := !polyB 0 (some 12) (10 ^ 60) d && (match d with | .tuple ds => decide (ds.length < 2 ^ 20) | _ => true)
def nilB : PyData → Bool
  | .tuple [] => true
  | _ => false
def zerB (d : PyData) : Bool := nilB d || badB d
def isNo : PyData → Bool
  | .none => true
  | _ => false
def twoL : List PyData := [.tuple [.int (-2), .int 1], .tuple [.int 0, .int 1], .tuple [.int 1, .int 1]]
def twoD : PyData := .tuple twoL
def someD : List PyData := [.none, .list [], .int (5), .str "1", .tuple [.tuple [.int (1), .int (1)], .tuple [.int (0), .int (1)]], .tuple [.tuple [.int (2), .int (4)]], .tuple [.int (1), .int (2)], .tuple [.tuple [.int (1), .int (1)], .bool true], .tuple (List.replicate 14 (.tuple [.int (1), .int (1)])), .dict [], .tuple [.tuple [.int (1), .int (0)]]]
def noneD : List PyData := [.tuple [], .none, .str "poly"]
def endsD : List PyData := [.int (0), .bool true, .str "1", .tuple [.int (2), .int (4)], .tuple [.int (1), .int (0)], .tuple [.int (1), .int (-2)], .list [.int (1), .int (2)], .tuple [.int (1)], .dict [], .tuple [.int (10 ^ Int.toNat 60), .int (1)]]
def farD : List PyData := [.int (0), .str "None", .tuple [.int (0), .int (2)], .tuple []]
def restD : List PyData := [.tuple [], .none, .tuple [.tuple [.int (1), .int (1)], .tuple [.int (0), .int (1)]], .list [], .str "poly", .tuple (List.replicate 14 (.tuple [.int (1), .int (1)]))]
def restW : List Str := ["poly", "reason ('roots', 2)", "reason ('roots', 0)", "reason ('roots', 0)", "reason ('roots', 2)", "reason ('roots', 0)"]
theorem some_b : ∀ d ∈ someD, badB d = true := by decide +kernel
theorem none_z : ∀ d ∈ noneD, zerB d = true := by decide +kernel
theorem rest_z : ∀ d ∈ restD, zerB d = true := by decide +kernel
theorem ends_no : ∀ d ∈ endsD, numB 0 (10 ^ 60) d = false ∧ isNo d = false := by decide +kernel
theorem ends_rep : ∀ d ∈ endsD, repOk d = true := by decide +kernel
theorem ends_shw : ∀ d ∈ endsD, shwOk "number " d = true := by decide +kernel
abbrev twoP : Ip := (twoL.map topD, 1)
abbrev oneP : Ip := ([PyData.tuple [.int 1, .int 1]].map topD, 1)
theorem two_ne : twoL ≠ [] := by unfold twoL; simp
theorem two_chain : chainB twoP = true := by decide +kernel
def HiOk (m x y : Int) : Prop := numB 0 (10 ^ 60) (.tuple [.int m, .int 1]) = true ∧ numB 0 (10 ^ 60) (.tuple [.int x, .int y]) = true ∧ strB (endOf (.tuple [.int m, .int 1])) (endOf (.tuple [.int x, .int y])) = false
instance {m x y : Int} : Decidable (HiOk m x y) := by unfold HiOk; infer_instance
theorem nine {P : Int → Prop} {r : Int} (r0 : 0 ≤ r) (r9 : r < 9) (h : ∀ n : Nat, n < 9 → P (n : Int)) : P r := by
  have := h r.toNat (by omega)
  rwa [Int.toNat_of_nonneg r0] at this
theorem lo_ok {r : Int} (r0 : 0 ≤ r) (r9 : r < 9) : HiOk (r - 4) (r - 4) 1 := nine (P := fun r => HiOk (r - 4) (r - 4) 1) r0 r9 (by decide +kernel)
theorem hi_ok {r x y : Int} (r0 : 0 ≤ r) (r9 : r < 9) (y1 : 1 ≤ y) (hg : Nat.gcd x.natAbs y.natAbs = 1) (ex : x * (1 * 2) = ((r - 4) * 2 + -1 * 1) * y) : HiOk (r - 4) x y := by
  rw [show (1 * 2 : Int) = 2 from rfl, show (r - 4) * 2 + -1 * 1 = 2 * r - 9 by omega] at ex
  have e2 : (2 * r - 9) * y = 2 * (r * y) - 9 * y := by rw [Int.sub_mul, Int.mul_assoc]
  obtain ⟨z, rfl⟩ : ∃ z, y = 2 * z := ⟨y / 2, by omega⟩
  have hx : x = (2 * r - 9) * z := by
    refine Int.eq_of_mul_eq_mul_right (by decide : (2 : Int) ≠ 0) ?_
    rw [ex, Int.mul_assoc, Int.mul_comm z 2]
  have d1 : z.natAbs ∣ Nat.gcd x.natAbs (2 * z).natAbs := Nat.dvd_gcd (Int.natAbs_dvd_natAbs.mpr ⟨2 * r - 9, by rw [hx, Int.mul_comm]⟩) (Int.natAbs_dvd_natAbs.mpr ⟨2, by rw [Int.mul_comm]⟩)
  rw [hg] at d1
  have hz := Nat.dvd_one.mp d1
  obtain rfl : z = 1 := by omega
  rw [Int.mul_one] at hx
  subst hx
  exact nine (P := fun r => HiOk (r - 4) (2 * r - 9) (2 * 1)) r0 r9 (by decide +kernel)
section
variable {K : PySem.W.Frag} {E : XK} {H : Hp} {no : List Addr} {v lo hi : V} {d : PyData} {Q : VK}
theorem mkB (b : badB d = true) (p : Pl H no d v) (r : Raise0 K E H "InvalidPoly") : BadQ K E H v := by
  simp only [badB, Bool.and_eq_true, Bool.not_eq_true'] at b
  refine ⟨d, no, p, fun ds e => ?_, b.1, r⟩
  subst e
  exact of_decide_eq_true b.2
theorem mkNil (p : Pl H no (.tuple []) v) : GoodQ H v [] := ⟨no, p, by decide +kernel, by simp⟩
theorem nil_of : ∀ {d : PyData}, nilB d = true → d = .tuple []
  | .tuple [], _ => rfl
  | .tuple (_ :: _), h => by cases h
  | .none, h | .int _, h | .bool _, h | .str _, h | .list _, h | .dict _, h => by cases h
theorem mkZ (b : zerB d = true) (p : Pl H no d v) (r : Raise0 K E H "InvalidPoly") : Bad0 K E H v := by
  unfold zerB at b
  rw [Bool.or_eq_true] at b
  rcases b with b | b
  · obtain rfl := nil_of b
    exact .inr ⟨mkNil p, r⟩
  · exact .inl (mkB b p r)
theorem mkT (p : Pl H no twoD v) : GoodQ H v twoL := ⟨no, p, by decide +kernel, by decide +kernel⟩
theorem mkU (p : Pl H no (.tuple [.tuple [.int 1, .int 1]]) v) : GoodQ H v [.tuple [.int 1, .int 1]] := ⟨no, p, by decide +kernel, by decide +kernel⟩
theorem mkE (m : d ∈ endsD) (p : Pl H no d v) (r : RaiseF K E H "InvalidNumber" "given" v) : BadE K E H v := by
  obtain ⟨h1, h2⟩ := ends_no d m
  exact ⟨d, no, p, (fun e => by rw [e] at h2; cases h2), h1, r⟩
theorem mkN (p : Pl H no d v) (h : numB 0 (10 ^ 60) d = true) : GoodE H v d := ⟨⟨no, p⟩, .inr h⟩
theorem mkNo : GoodE H .non .none := ⟨⟨[], by rw [Pl]⟩, .inl rfl⟩
theorem ref_of {n m : Int} (e : m = n) (r : RefR K E H n) : RefR K E H m := by rw [e]; exact r
def F2 (K : PySem.W.Frag) (f : Addr) (sp : Sp) : Prop := (f = He.ga K "roots_answer" ∧ sp = sp_roots_answer K) ∨ (f = He.ga K "alone_answer" ∧ sp = sp_alone_answer K)
theorem b2 {f : Addr} {sp : Sp} (h : F2 K f sp) (b : AskBad K E H v lo hi) : sp [v, lo, hi] H Q E := by
  rcases h with ⟨_, rfl⟩ | ⟨_, rfl⟩
  · exact ⟨v, lo, hi, rfl, .inl b⟩
  · exact ⟨v, lo, hi, rfl, .inl b⟩
end
abbrev v37 (two bad nn en lo hi : V) (db dn de : PyData) (m x y : Int) : List (V × PyData) := [(two, twoD), (bad, db), (nn, dn), (en, de), (lo, .tuple [.int m, .int 1]), (hi, .tuple [.int x, .int y])]
/-! ### _law_dice -/
theorem sc__law_dice : FnScope ["script", "spot", "cell", "left"] ["script", "spot"] (defScope s__law_dice) := ⟨rfl, rfl, rfl, by decide +kernel, rfl, by decide +kernel, by decide +kernel⟩
def sp__law_dice (K : PySem.W.Frag) : Sp := fun vs H Q _ => ∃ (a : Addr) (ns : List Int) (spot : Nat), vs = [.ref a, .int (spot : Int)] ∧ SqL K H a (ns.map V.int) ∧
  ∀ D H', H D = none → Same H H' → Dice H' D → Q (.ref D) H'
theorem len__law_dice {K : PySem.W.Frag} {vs : List V} {H : Hp} {Q : VK} {E : XK} (h : sp__law_dice K vs H Q E) : vs.length = ["script", "spot"].length := by
  obtain ⟨_, _, _, rfl, _⟩ := h
  rfl
def t__law_dice (K : PySem.W.Frag) : TS := (tSeq (tAsg (tIf (tTest (tOp rLtI (tVar 1) (tCB (rLenU K) (tCons (tVar 0) tNil)))) (tCB (rInt1) (tCons (tOp (rIxA K) (tVar 0) (tVar 1)) tNil)) (tOp rAdd (tOp rMulU (tC (.int 97)) (tVar 1)) (tC (.int 59)))) (gName 2))
  (tSeq (tAsg (tOp rModU (tCB (rMax2) (tCons (tC (.int 0)) (tCons (tOp rSub (tCB (rAbs) (tCons (tVar 2) tNil)) (tOp rPowU (tC (.int 10)) (tC (.int 16)))) tNil))) (tOp rMulU (tOp rPowU (tC (.int 10)) (tC (.int 58))) (tOp rPowU (tC (.int 10)) (tC (.int 60))))) (gName 3))
  (tRet (tLst (tCons (tVar 3) (tCons (tOp rAdd (tOp rAdd (tOp rAdd (tOp rMulU (tOp rModU (tCB (rAbs) (tCons (tVar 2) tNil)) (tC (.int 1152921504606846733))) (tC (.int 83))) (tOp rMulU (tC (.int 1033)) (tVar 1))) (tOp rMulU (tC (.int 61)) (tCB (rInt1) (tCons (tOp rLtI (tVar 2) (tC (.int 0))) tNil)))) (tC (.int 29))) (tCons (tC (.int 0)) tNil)))))))
theorem big_mul : CMul (10 ^ (58 : Int).toNat) (10 ^ (60 : Int).toNat) ∨ CMulW (10 ^ (58 : Int).toNat) (10 ^ (60 : Int).toNat) :=
  .inr (wide_mul (a := 200) (b := 210) (by decide) (by decide) (by decide) (by decide) (by decide))
theorem pure__law_dice (K : PySem.W.Frag) (vs : List V) (H : Hp) (Q : VK) (E : XK) (h : sp__law_dice K vs H Q E) : t__law_dice K { nx := fun _ H' => Q .non H', rt := Q } (start ["script", "spot", "cell", "left"] vs) H := by
  obtain ⟨a, ns, spot, rfl, hS, hq⟩ := h
  unfold t__law_dice
  walk_at "z"
  refine lenL hS ?_
  walk_at "z"
  by_cases hs : (spot : Int) < ((ns.map V.int).length : Int)
  · rw [if_pos hs]
    have hs2 : spot < ns.length := by simpa using hs
    refine ixL hS (v := .int ns[spot]) (atI_nat (by simp [hs2])) ?_
    walk_at "z"
    refine ⟨cpow (by decide), cpow (by decide), cpow (by decide), big_mul, by decide, by decide, mulR (by decide), mulS (by decide), mulS (by decide), by decide, fun p hp => ?_⟩
    exact hq p _ hp (same_upd hp) ⟨_, _, _, upd_same⟩
  · rw [if_neg hs]
    refine ⟨mulS (by decide), cpow (by decide), cpow (by decide), cpow (by decide), big_mul, by decide, by decide, mulR (by decide), mulS (by decide), mulS (by decide), by decide, fun p hp => ?_⟩
    exact hq p _ hp (same_upd hp) ⟨_, _, _, upd_same⟩
theorem ok__law_dice {P : Program} {w : World} {K : PySem.W.Frag} {mg : Str → Option Value} {base : Heap} (T : Tx K mg) : Okk P w K mg base 1 "_law_dice" ["script", "spot"] (sp__law_dice K) := by
  have hf_abs := T.n_abs
  have hf_int := T.n_int
  have hf_len := T.n_len
  have hf_max := T.n_max
  obtain ⟨fd, F⟩ := T.f__law_dice
  refine ⟨fd, F.ok sc__law_dice (fun vs H Q E h => len__law_dice h) (fun cdv A outer s H vs Q E hr h => ⟨t__law_dice K, PSs.nox ?_, pure__law_dice K vs H Q E h⟩), F.bindsN (fun _ _ _ _ _ _ us hl => match us, hl with | [_, _], _ => rfl), T.g__law_dice, F.kp⟩
  exact (pss_cons (ps_set (i := 2) sc__law_dice.nd rfl (by first | exact Or.inl rfl | exact Or.inr rfl) (pe_ifExp (pt_cmpR op_lt (pv 1) (pe_callB call_len_seq (by rfl) hf_len (by decide +kernel) (pa_cons (pv 0) pa_nil)) (nomark _)) (pe_callTy call_int1 (by rfl) hf_int (by decide +kernel) (pa_cons (pe_ix ix_lt (pv 0) (pv 1) (fun _ _ => rfl)) pa_nil)) (pe_op op_add (pe_op op_mulU pe_int (pv 1)) pe_int)))
      (pss_cons (ps_set (i := 3) sc__law_dice.nd rfl (by first | exact Or.inl rfl | exact Or.inr rfl) (pe_op op_mod (pe_callB (call_max2 rfl) (by rfl) hf_max (by decide +kernel) (pa_cons pe_int (pa_cons (pe_op op_sub (pe_callB call_abs (by rfl) hf_abs (by decide +kernel) (pa_cons (pv 2) pa_nil)) (pe_op op_pow pe_int pe_int)) pa_nil))) (pe_op op_mulU (pe_op op_pow pe_int pe_int) (pe_op op_pow pe_int pe_int))))
      (pss_one (ps_ret (pe_lst (pa_cons (pv 3) (pa_cons (pe_op op_add (pe_op op_add (pe_op op_add (pe_op op_mulU (pe_op op_mod (pe_callB call_abs (by rfl) hf_abs (by decide +kernel) (pa_cons (pv 2) pa_nil)) pe_int) pe_int) (pe_op op_mulU pe_int (pv 1))) (pe_op op_mulU pe_int (pe_callTy call_int1 (by rfl) hf_int (by decide +kernel) (pa_cons (pe_cmpR op_lt (pv 2) pe_int (nomark _)) pa_nil)))) pe_int) (pa_cons pe_int pa_nil))))))))
/-! ### _law_roll -/
theorem sc__law_roll : FnScope ["dice", "most", "found", "one", "two"] ["dice", "most"] (defScope s__law_roll) := ⟨rfl, rfl, rfl, by decide +kernel, rfl, by decide +kernel, by decide +kernel⟩
def sp__law_roll (K : PySem.W.Frag) : Sp := fun vs H Q _ => ∃ (d : Addr) (most : Int), vs = [.ref d, .int most] ∧ Dice H d ∧ 0 < most ∧ most < 2 ^ 250 ∧ ∀ r H', 0 ≤ r → r < most → Keep d H H' → Dice H' d → Q (.int r) H'
theorem len__law_roll {K : PySem.W.Frag} {vs : List V} {H : Hp} {Q : VK} {E : XK} (h : sp__law_roll K vs H Q E) : vs.length = ["dice", "most"].length := by
  obtain ⟨_, _, rfl, _⟩ := h
  rfl
def t__law_roll (K : PySem.W.Frag) : TS := (tSeq (tIfS (tTest (tOp rGtI (tOp (rIxA K) (tVar 0) (tC (.int 0))) (tC (.int 0)))) (tSeq (tAsg (tOp rModU (tCB (rInt1) (tCons (tOp (rIxA K) (tVar 0) (tC (.int 0))) tNil)) (tVar 1)) (gName 2))
  (tSeq (tAsg (tOp rDivU (tOp (rIxA K) (tVar 0) (tC (.int 0))) (tVar 1)) (gSub (tVar 0) (tC (.int 0)) rSetL))
  (tRet (tVar 2)))) tNext)
  (tSeq (tAsg (tOp rAdd (tOp (rIxA K) (tVar 0) (tC (.int 2))) (tC (.int 1))) (gSub (tVar 0) (tC (.int 2)) rSetL))
  (tSeq (tAsg (tOp rModU (tCB (rInt1) (tCons (tOp rAdd (tOp (rIxA K) (tVar 0) (tC (.int 1))) (tOp rMulU (tC (.int 86028121)) (tOp (rIxA K) (tVar 0) (tC (.int 2))))) tNil)) (tC (.int 2305843009213693561))) (gName 3))
  (tSeq (tAsg (tOp rModU (tCB (rInt1) (tCons (tOp rAdd (tOp rMulU (tVar 3) (tVar 3)) (tOp rMulU (tC (.int 103)) (tOp (rIxA K) (tVar 0) (tC (.int 2))))) tNil)) (tC (.int 2305843009213693669))) (gName 4))
  (tRet (tOp rModU (tCB (rInt1) (tCons (tOp rDivU (tOp rAdd (tOp rMulU (tVar 4) (tC (.int 7654321))) (tVar 3)) (tC (.int 65557))) tNil)) (tVar 1)))))))
theorem pure__law_roll (K : PySem.W.Frag) (vs : List V) (H : Hp) (Q : VK) (E : XK) (h : sp__law_roll K vs H Q E) : t__law_roll K { nx := fun _ H' => Q .non H', rt := Q } (start ["dice", "most", "found", "one", "two"] vs) H := by
  obtain ⟨d, most, rfl, ⟨a, b, c, hD⟩, h0, h1, hq⟩ := h
  unfold t__law_roll
  walk_at "z"
  refine ixL (sqL_of hD) rfl ?_
  walk_at "z"
  by_cases ha : 0 < a
  · rw [if_pos ha]
    refine ixL (sqL_of hD) rfl ?_
    walk_at "z"
    refine ⟨h0, ixL (sqL_of hD) rfl ?_⟩
    walk_at "z"
    refine ⟨divM h0 h1, setL hD rfl ?_⟩
    walk_at "z"
    exact hq _ _ (Int.emod_nonneg _ (by omega)) (Int.emod_lt_of_pos _ h0) (Keep.refl d H).put ⟨_, _, _, upd_same⟩
  · rw [if_neg ha]
    refine ixL (sqL_of hD) rfl ?_
    walk_at "z"
    refine setL hD rfl ?_
    walk_at "z"
    refine ixL (sqL_of upd_same) rfl ?_
    walk_at "z"
    refine ixL (sqL_of upd_same) rfl ?_
    walk_at "z"
    have e := Int.emod_nonneg (b + 86028121 * (c + 1)) (show (2305843009213693561 : Int) ≠ 0 by decide)
    have e2 := Int.emod_lt_of_pos (b + 86028121 * (c + 1)) (show (0 : Int) < 2305843009213693561 by decide)
    refine ⟨mulS (by decide), by decide, mulS (by omega), ixL (sqL_of upd_same) rfl ?_⟩
    walk_at "z"
    refine ⟨mulS (by decide), by decide, mulR (by decide), divS (by decide) (by decide), h0, ?_⟩
    exact hq _ _ (Int.emod_nonneg _ (by omega)) (Int.emod_lt_of_pos _ h0) (Keep.refl d H).put ⟨_, _, _, upd_same⟩
theorem ok__law_roll {P : Program} {w : World} {K : PySem.W.Frag} {mg : Str → Option Value} {base : Heap} (T : Tx K mg) : Okk P w K mg base 1 "_law_roll" ["dice", "most"] (sp__law_roll K) := by
  have hf_int := T.n_int
  obtain ⟨fd, F⟩ := T.f__law_roll
  refine ⟨fd, F.ok sc__law_roll (fun vs H Q E h => len__law_roll h) (fun cdv A outer s H vs Q E hr h => ⟨t__law_roll K, PSs.nox ?_, pure__law_roll K vs H Q E h⟩), F.bindsN (fun _ _ _ _ _ _ us hl => match us, hl with | [_, _], _ => rfl), T.g__law_roll, F.kp⟩
  exact (pss_cons (ps_if (pt_cmpR op_gt (pe_ix ix_lt (pv 0) pe_int (fun _ _ => rfl)) pe_int (nomark _)) (pss_cons (ps_set (i := 2) sc__law_roll.nd rfl (by first | exact Or.inl rfl | exact Or.inr rfl) (pe_op op_mod (pe_callTy call_int1 (by rfl) hf_int (by decide +kernel) (pa_cons (pe_ix ix_lt (pv 0) pe_int (fun _ _ => rfl)) pa_nil)) (pv 1)))
      (pss_cons (ps_asg (pe_op op_fdivW (pe_ix ix_lt (pv 0) pe_int (fun _ _ => rfl)) (pv 1)) (pg_sub (pv 0) pe_int set_list))
      (pss_one (ps_ret (pv 2))))) pss_nil)
      (pss_cons (ps_asg (pe_op op_add (pe_ix ix_lt (pv 0) pe_int (fun _ _ => rfl)) pe_int) (pg_sub (pv 0) pe_int set_list))
      (pss_cons (ps_set (i := 3) sc__law_roll.nd rfl (by first | exact Or.inl rfl | exact Or.inr rfl) (pe_op op_mod (pe_callTy call_int1 (by rfl) hf_int (by decide +kernel) (pa_cons (pe_op op_add (pe_ix ix_lt (pv 0) pe_int (fun _ _ => rfl)) (pe_op op_mulU pe_int (pe_ix ix_lt (pv 0) pe_int (fun _ _ => rfl)))) pa_nil)) pe_int))
      (pss_cons (ps_set (i := 4) sc__law_roll.nd rfl (by first | exact Or.inl rfl | exact Or.inr rfl) (pe_op op_mod (pe_callTy call_int1 (by rfl) hf_int (by decide +kernel) (pa_cons (pe_op op_add (pe_op op_mulU (pv 3) (pv 3)) (pe_op op_mulU pe_int (pe_ix ix_lt (pv 0) pe_int (fun _ _ => rfl)))) pa_nil)) pe_int))
      (pss_one (ps_ret (pe_op op_mod (pe_callTy call_int1 (by rfl) hf_int (by decide +kernel) (pa_cons (pe_op op_fdivW (pe_op op_add (pe_op op_mulU (pv 4) pe_int) (pv 3)) pe_int) pa_nil)) (pv 1))))))))
/-! ### _law_gcd -/
theorem sc__law_gcd : FnScope ["one", "other"] ["one", "other"] (defScope s__law_gcd) := ⟨rfl, rfl, rfl, by decide +kernel, rfl, by decide +kernel, by decide +kernel⟩
def sp__law_gcd (K : PySem.W.Frag) : Sp := fun vs H Q _ => ∃ a b : Int, vs = [.int a, .int b] ∧ Q (.int ((Nat.gcd a.natAbs b.natAbs : Nat) : Int)) H
theorem len__law_gcd {K : PySem.W.Frag} {vs : List V} {H : Hp} {Q : VK} {E : XK} (h : sp__law_gcd K vs H Q E) : vs.length = ["one", "other"].length := by
  obtain ⟨_, _, rfl, _⟩ := h
  rfl
def t__law_gcd_w1_c (K : PySem.W.Frag) : TT := (tTest (tOp rGtI (tVar 1) (tC (.int 0))))
def t__law_gcd_w1_b (K : PySem.W.Frag) : TS := (tPar 0 1 (tCons (tVar 1) (tCons (tOp rModU (tCB (rInt1) (tCons (tVar 0) tNil)) (tVar 1)) tNil)))
def t__law_gcd (K : PySem.W.Frag) : TS := (tSeq (tPar 0 1 (tCons (tCB (rAbs) (tCons (tVar 0) tNil)) (tCons (tCB (rAbs) (tCons (tVar 1) tNil)) tNil)))
  (tSeq (tWhile (t__law_gcd_w1_c K) (t__law_gcd_w1_b K))
  (tRet (tVar 0))))
theorem abs_nat (a : Int) : (if a < 0 then -a else a) = ((a.natAbs : Nat) : Int) := by split <;> omega
theorem pure__law_gcd (K : PySem.W.Frag) (vs : List V) (H : Hp) (Q : VK) (E : XK) (h : sp__law_gcd K vs H Q E) : t__law_gcd K { nx := fun _ H' => Q .non H', rt := Q } (start ["one", "other"] vs) H := by
  obtain ⟨a, b, rfl, hq⟩ := h
  unfold t__law_gcd
  walk_at "z"
  rw [abs_nat, abs_nat]
  refine while_of (fun μ σ H' => ∃ x y : Nat, σ = [some (.int (x : Int)), some (.int (y : Int))] ∧ H' = H ∧ Nat.gcd x y = Nat.gcd a.natAbs b.natAbs ∧ μ = y) b.natAbs ⟨_, _, rfl, rfl, rfl, rfl⟩ ?_
  rintro μ σ H' ⟨x, y, rfl, rfl, hg, rfl⟩ N hN hN2
  unfold t__law_gcd_w1_c t__law_gcd_w1_b
  walk_at "z"
  by_cases h0 : 0 < μ
  · rw [if_pos (by omega)]
    refine ⟨N, hN2, ?_⟩
    walk_at "z"
    refine ⟨by omega, hN (x % μ) _ _ (Nat.mod_lt _ h0) ⟨μ, x % μ, by rw [Int.natCast_emod], rfl, ?_, rfl⟩⟩
    rw [← hg, Nat.gcd_comm μ (x % μ), ← Nat.gcd_rec μ x, Nat.gcd_comm]
  · rw [if_neg (by omega)]
    obtain rfl : μ = 0 := by omega
    rw [Nat.gcd_zero_right] at hg
    subst hg
    exact hq
theorem ok__law_gcd {P : Program} {w : World} {K : PySem.W.Frag} {mg : Str → Option Value} {base : Heap} (T : Tx K mg) : Okk P w K mg base 1 "_law_gcd" ["one", "other"] (sp__law_gcd K) := by
  have hf_abs := T.n_abs
  have hf_int := T.n_int
  obtain ⟨fd, F⟩ := T.f__law_gcd
  refine ⟨fd, F.ok sc__law_gcd (fun vs H Q E h => len__law_gcd h) (fun cdv A outer s H vs Q E hr h => ⟨t__law_gcd K, PSs.nox ?_, pure__law_gcd K vs H Q E h⟩), F.bindsN (fun _ _ _ _ _ _ us hl => match us, hl with | [_, _], _ => rfl), T.g__law_gcd, F.kp⟩
  exact (pss_cons (ps_par (i := 0) (j := 1) rfl sc__law_gcd.nd rfl rfl (by decide) rfl rfl (pa_cons (pe_callB call_abs (by rfl) hf_abs (by decide +kernel) (pa_cons (pv 0) pa_nil)) (pa_cons (pe_callB call_abs (by rfl) hf_abs (by decide +kernel) (pa_cons (pv 1) pa_nil)) pa_nil)) (by rfl))
      (pss_cons (ps_while PassesOwn.never (pt_cmpR op_gt (pv 1) pe_int (nomark _)) (pss_one (ps_par (i := 0) (j := 1) rfl sc__law_gcd.nd rfl rfl (by decide) rfl rfl (pa_cons (pv 1) (pa_cons (pe_op op_mod (pe_callTy call_int1 (by rfl) hf_int (by decide +kernel) (pa_cons (pv 0) pa_nil)) (pv 1)) pa_nil)) (by rfl))))
      (pss_one (ps_ret (pv 0)))))
/-! ### _law_pick -/
theorem sc__law_pick : FnScope ["dice", "items"] ["dice", "items"] (defScope s__law_pick) := ⟨rfl, rfl, rfl, by decide +kernel, rfl, by decide +kernel, by decide +kernel⟩
def sp__law_pick (K : PySem.W.Frag) : Sp := fun vs H Q _ => ∃ (d L : Addr) (xs : List V), vs = [.ref d, .ref L] ∧ Dice H d ∧ d ≠ L ∧ H L = some (.lst xs) ∧ xs ≠ [] ∧ xs.length < 2 ^ 40 ∧ ∀ v H', v ∈ xs → Keep d H H' → Dice H' d → Q v H'
theorem len__law_pick {K : PySem.W.Frag} {vs : List V} {H : Hp} {Q : VK} {E : XK} (h : sp__law_pick K vs H Q E) : vs.length = ["dice", "items"].length := by
  obtain ⟨_, _, _, rfl, _⟩ := h
  rfl
def t__law_pick (K : PySem.W.Frag) : TS := (tRet (tOp (rIxA K) (tVar 1) (tCall (sp__law_roll K) [] E0 (tCons (tVar 0) (tCons (tCB (rLenU K) (tCons (tVar 1) tNil)) tNil)))))
theorem pure__law_pick (K : PySem.W.Frag) (vs : List V) (H : Hp) (Q : VK) (E : XK) (h : sp__law_pick K vs H Q E) : t__law_pick K { nx := fun _ H' => Q .non H', rt := Q } (start ["dice", "items"] vs) H := by
  obtain ⟨d, L, xs, rfl, hD, hne, hL, hx, hl, hq⟩ := h
  unfold t__law_pick
  walk_at "z"
  refine lenL (sqL_of hL) ?_
  walk_at "z"
  have hp : 0 < xs.length := List.length_pos_iff.mpr hx
  refine ⟨d, _, rfl, hD, by omega, by omega, fun r H' r0 r1 k1 d1 => ?_⟩
  walk_at "z"
  have hr : r.toNat < xs.length := by omega
  have e : r = ((r.toNat : Nat) : Int) := by omega
  refine ixL (sqL_of (k1 _ _ (Ne.symm hne) hL)) (v := xs[r.toNat]) ?_ (hq _ _ (List.getElem_mem hr) k1 d1)
  have h9 := atI_nat (List.getElem?_eq_getElem hr)
  rw [← e] at h9
  exact h9
theorem ok__law_pick {P : Program} {w : World} {K : PySem.W.Frag} {mg : Str → Option Value} {base : Heap} (T : Tx K mg) : Okk P w K mg base 2 "_law_pick" ["dice", "items"] (sp__law_pick K) := by
  obtain ⟨fd__law_roll, F__law_roll, b__law_roll, g__law_roll, k__law_roll⟩ := ok__law_roll (P := P) (w := w) (base := base) T
  have hf_len := T.n_len
  obtain ⟨fd, F⟩ := T.f__law_pick
  refine ⟨fd, F.ok sc__law_pick (fun vs H Q E h => len__law_pick h) (fun cdv A outer s H vs Q E hr h => ⟨t__law_pick K, PSs.nox ?_, pure__law_pick K vs H Q E h⟩), F.bindsN (fun _ _ _ _ _ _ us hl => match us, hl with | [_, _], _ => rfl), T.g__law_pick, F.kp⟩
  exact (pss_one (ps_ret (pe_ix ix_lt (pv 1) (pe_call F__law_roll (hr.mono (by decide)) rfl g__law_roll k__law_roll b__law_roll .nil pass0 (pa_cons (pv 0) (pa_cons (pe_callB call_len_seq (by rfl) hf_len (by decide +kernel) (pa_cons (pv 1) pa_nil)) pa_nil))) (fun _ _ => rfl))))
/-! ### _law_fraction -/
theorem sc__law_fraction : FnScope ["top", "bottom", "shared"] ["top", "bottom"] (defScope s__law_fraction) := ⟨rfl, rfl, rfl, by decide +kernel, rfl, by decide +kernel, by decide +kernel⟩
def sp__law_fraction (K : PySem.W.Frag) : Sp := fun vs H Q _ => ∃ t b : Int, vs = [.int t, .int b] ∧ b ≠ 0 ∧ Sz 8000 b ∧ ∀ p x y H', Same H H' → Frac t b x y → x.natAbs ≤ t.natAbs → y.natAbs ≤ b.natAbs → H' p = some (.tup [.int x, .int y]) → Q (.ref p) H'
theorem len__law_fraction {K : PySem.W.Frag} {vs : List V} {H : Hp} {Q : VK} {E : XK} (h : sp__law_fraction K vs H Q E) : vs.length = ["top", "bottom"].length := by
  obtain ⟨_, _, rfl, _⟩ := h
  rfl
def t__law_fraction (K : PySem.W.Frag) : TS := (tSeq (tAsg (tCall (sp__law_gcd K) [] E0 (tCons (tVar 0) (tCons (tVar 1) tNil))) (gName 2))
  (tSeq (tIfS (tTest (tOp rLtI (tVar 1) (tC (.int 0)))) (tAsg (tUn rNeg (tVar 2)) (gName 2)) tNext)
  (tRet (tTup (tCons (tOp rDivZ (tVar 0) (tVar 2)) (tCons (tOp rDivZ (tVar 1) (tVar 2)) tNil))))))
theorem pure__law_fraction (K : PySem.W.Frag) (vs : List V) (H : Hp) (Q : VK) (E : XK) (h : sp__law_fraction K vs H Q E) : t__law_fraction K { nx := fun _ H' => Q .non H', rt := Q } (start ["top", "bottom", "shared"] vs) H := by
  obtain ⟨t, b, rfl, hb, sb, hq⟩ := h
  unfold t__law_fraction
  walk_at "z"
  refine ⟨t, b, rfl, ?_⟩
  walk_at "z"
  have key : ∀ c : Int, (c = ((Nat.gcd t.natAbs b.natAbs : Nat) : Int) ∧ 0 < b ∨ c = -((Nat.gcd t.natAbs b.natAbs : Nat) : Int) ∧ b < 0) →
      CDivZ t c ∧ CDivZ b c ∧ 2 ≤ sizeLine ∧ ∀ p, H p = none → Q (.ref p) (upd H p (.tup [.int (t.fdiv c), .int (b.fdiv c)])) := fun c hc => by
    obtain ⟨f, e1, e2, e3, e4⟩ := frac_of hc
    have lc : c.natAbs.log2 < 9000 := Nat.lt_of_lt_of_le (PySem.Flt.log2_lt_of (k := 8000) (by decide) (sz_le sb e4)) (by decide)
    exact ⟨⟨e3, lc⟩, ⟨e3, lc⟩, by decide, fun p hp => hq p _ _ _ (same_upd hp) f e1 e2 upd_same⟩
  by_cases h0 : b < 0
  · rw [if_pos h0]
    exact key _ (.inr ⟨rfl, h0⟩)
  · rw [if_neg h0]
    exact key _ (.inl ⟨rfl, by omega⟩)
theorem ok__law_fraction {P : Program} {w : World} {K : PySem.W.Frag} {mg : Str → Option Value} {base : Heap} (T : Tx K mg) : Okk P w K mg base 2 "_law_fraction" ["top", "bottom"] (sp__law_fraction K) := by
  obtain ⟨fd__law_gcd, F__law_gcd, b__law_gcd, g__law_gcd, k__law_gcd⟩ := ok__law_gcd (P := P) (w := w) (base := base) T
  obtain ⟨fd, F⟩ := T.f__law_fraction
  refine ⟨fd, F.ok sc__law_fraction (fun vs H Q E h => len__law_fraction h) (fun cdv A outer s H vs Q E hr h => ⟨t__law_fraction K, PSs.nox ?_, pure__law_fraction K vs H Q E h⟩), F.bindsN (fun _ _ _ _ _ _ us hl => match us, hl with | [_, _], _ => rfl), T.g__law_fraction, F.kp⟩
  exact (pss_cons (ps_set (i := 2) sc__law_fraction.nd rfl (by first | exact Or.inl rfl | exact Or.inr rfl) (pe_call F__law_gcd (hr.mono (by decide)) rfl g__law_gcd k__law_gcd b__law_gcd .nil pass0 (pa_cons (pv 0) (pa_cons (pv 1) pa_nil))))
      (pss_cons (ps_if (pt_cmpR op_lt (pv 1) pe_int (nomark _)) (pss_one (ps_set (i := 2) sc__law_fraction.nd rfl (by first | exact Or.inl rfl | exact Or.inr rfl) (pe_un un_neg (pv 2)))) pss_nil)
      (pss_one (ps_ret (pe_tup (pa_cons (pe_op op_fdivZ (pv 0) (pv 2)) (pa_cons (pe_op op_fdivZ (pv 1) (pv 2)) pa_nil)))))))
/-! ### _law_plus -/
theorem sc__law_plus : FnScope ["ground", "one", "other"] ["ground", "one", "other"] (defScope s__law_plus) := ⟨rfl, rfl, rfl, by decide +kernel, rfl, by decide +kernel, by decide +kernel⟩
def sp__law_plus (K : PySem.W.Frag) : Sp := fun vs H Q _ => ∃ (g : Int) (v w : V) (a b c d : Int), vs = [.int g, v, w] ∧ 0 ≤ g ∧ NumR H g v a b ∧ NumR H g w c d ∧ Sz 3000 a ∧ Sz 3000 b ∧ Sz 3000 c ∧ Sz 3000 d ∧
  ∀ z x y H', Same H H' → NumR H' g z x y → (g = 0 → x * (b * d) = (a * d + c * b) * y) → (g ≠ 0 → x = (a + c) % g) → Q z H'
theorem len__law_plus {K : PySem.W.Frag} {vs : List V} {H : Hp} {Q : VK} {E : XK} (h : sp__law_plus K vs H Q E) : vs.length = ["ground", "one", "other"].length := by
  obtain ⟨_, _, _, _, _, _, _, rfl, _⟩ := h
  rfl
def t__law_plus (K : PySem.W.Frag) : TS := (tSeq (tIfS (tTest (tOp rNe (tVar 0) (tC (.int 0)))) (tRet (tOp rModU (tCB (rInt1) (tCons (tOp rAdd (tVar 1) (tVar 2)) tNil)) (tVar 0))) tNext)
  (tRet (tCall (sp__law_fraction K) [] E0 (tCons (tOp rAdd (tOp rMulU (tOp (rIxA K) (tVar 1) (tC (.int 0))) (tOp (rIxA K) (tVar 2) (tC (.int 1)))) (tOp rMulU (tOp (rIxA K) (tVar 2) (tC (.int 0))) (tOp (rIxA K) (tVar 1) (tC (.int 1))))) (tCons (tOp rMulU (tOp (rIxA K) (tVar 1) (tC (.int 1))) (tOp (rIxA K) (tVar 2) (tC (.int 1)))) tNil)))))
theorem fplus {K : PySem.W.Frag} {F : Type} [Lean.Grind.Field F] {g : Nat} [Lean.Grind.IsCharP F g] {v w : V} {q r : Int × Int} {H : Hp} {Q : VK} {E : XK} {B C : Nat} (hg : GroundV (.int (g : Int))) (n1 : NumR H g v q.1 q.2) (n2 : NumR H g w r.1 r.2)
    (c1 : Lin.Com F g B fun _ : Unit => Lin.val F q.1 q.2) (c2 : Lin.Com F g C fun _ : Unit => Lin.val F r.1 r.2) (hB : B ≤ 3000 := by decide) (hC : C ≤ 3000 := by decide)
    (k : ∀ z (s : Int × Int) H', Same H H' → NumR H' g z s.1 s.2 → Lin.val F s.1 s.2 = Lin.val F q.1 q.2 + Lin.val F r.1 r.2 → Q z H') : sp__law_plus K [.int (g : Int), v, w] H Q E := by
  have z1 := n1.szn hg (c1.mono hB) (by decide)
  have z2 := n2.szn hg (c2.mono hC) (by decide)
  refine ⟨(g : Int), v, w, q.1, q.2, r.1, r.2, rfl, by omega, n1, n2, z1.1, z1.2, z2.1, z2.2, fun z x y H' s n e1 e2 => k z (x, y) H' s n ?_⟩
  by_cases g0 : g = 0
  · subst g0
    have h1 := n1.low.1
    have h2 := n2.low.1
    have h3 := n.low.1
    have e := congrArg (Lin.ph F) (e1 rfl)
    have hz : ∀ {b : Int}, 1 ≤ b → Lin.ph F b ≠ 0 := fun h c => by rw [Lin.ph_eq_zero 0] at c; simp at c; omega
    have p1 := hz h1
    have p2 := hz h2
    have p3 := hz h3
    simp only [Lin.ph_mul, Lin.ph_add] at e
    simp only [Lin.val]
    grind
  · have g1 : (g : Int) ≠ 0 := by omega
    have e := e2 g1
    have h1 : q.2 = 1 := (n1.resolve_left fun c => g1 c.1).2.2.1
    have h2 : r.2 = 1 := (n2.resolve_left fun c => g1 c.1).2.2.1
    have h3 : y = 1 := (n.resolve_left fun c => g1 c.1).2.2.1
    rw [h1, h2]
    simp only [h3, Lin.val_one]
    rw [e, Lin.ph_mod, Lin.ph_add]
theorem pure__law_plus (K : PySem.W.Frag) (vs : List V) (H : Hp) (Q : VK) (E : XK) (h : sp__law_plus K vs H Q E) : t__law_plus K { nx := fun _ H' => Q .non H', rt := Q } (start ["ground", "one", "other"] vs) H := by
  obtain ⟨g, v, w, a, b, c, d, rfl, hg, n1, n2, sa, sb, sc, sd, hq⟩ := h
  unfold t__law_plus
  walk_at "z"
  rcases n1 with ⟨rfl, ⟨p, rfl, hp⟩, b1, _⟩ | ⟨hg0, rfl, rfl, a0, a1⟩
  · rcases n2 with ⟨_, ⟨q, rfl, hp2⟩, d1, _⟩ | ⟨h, _⟩
    · walk_at "z"
      refine ixT (sqT_of hp) (v := .int a) rfl ?_
      refine ixT (sqT_of hp2) (v := .int d) rfl ?_
      walk_at "z"
      refine ⟨szm sa sd, ixT (sqT_of hp2) (v := .int c) rfl ?_⟩
      refine ixT (sqT_of hp) (v := .int b) rfl ?_
      walk_at "z"
      refine ⟨szm sc sb, ixT (sqT_of hp) (v := .int b) rfl ?_⟩
      refine ixT (sqT_of hp2) (v := .int d) rfl ?_
      walk_at "z"
      have hbd : 1 ≤ b * d := Int.mul_pos (by omega) (by omega)
      refine ⟨szm sb sd, _, _, rfl, by omega, sz_mono (sz_mul sb sd) (by decide), fun p x y H' s f f1 f2 hp => ?_⟩
      exact hq _ x y H' s (.inl ⟨rfl, ⟨p, rfl, hp⟩, f.1, f.2.1⟩) (fun _ => f.2.2) (fun h => absurd rfl h)
    · exact absurd rfl h
  · rcases n2 with ⟨h, _⟩ | ⟨_, rfl, rfl, c0, c1⟩
    · exact absurd h hg0
    · rw [if_pos hg0]
      walk_at "z"
      refine ⟨by omega, hq _ _ 1 H (Same.refl H) (.inr ⟨hg0, rfl, rfl, Int.emod_nonneg _ hg0, Int.emod_lt_of_pos _ (by omega)⟩) (fun h => absurd h hg0) (fun _ => rfl)⟩
theorem ok__law_plus {P : Program} {w : World} {K : PySem.W.Frag} {mg : Str → Option Value} {base : Heap} (T : Tx K mg) : Okk P w K mg base 3 "_law_plus" ["ground", "one", "other"] (sp__law_plus K) := by
  obtain ⟨fd__law_fraction, F__law_fraction, b__law_fraction, g__law_fraction, k__law_fraction⟩ := ok__law_fraction (P := P) (w := w) (base := base) T
  have hf_int := T.n_int
  obtain ⟨fd, F⟩ := T.f__law_plus
  refine ⟨fd, F.ok sc__law_plus (fun vs H Q E h => len__law_plus h) (fun cdv A outer s H vs Q E hr h => ⟨t__law_plus K, PSs.nox ?_, pure__law_plus K vs H Q E h⟩), F.bindsN (fun _ _ _ _ _ _ us hl => match us, hl with | [_, _, _], _ => rfl), T.g__law_plus, F.kp⟩
  exact (pss_cons (ps_if (pt_cmpR op_ne (pv 0) pe_int (nomark _)) (pss_one (ps_ret (pe_op op_mod (pe_callTy call_int1 (by rfl) hf_int (by decide +kernel) (pa_cons (pe_op op_add (pv 1) (pv 2)) pa_nil)) (pv 0)))) pss_nil)
      (pss_one (ps_ret (pe_call F__law_fraction (hr.mono (by decide)) rfl g__law_fraction k__law_fraction b__law_fraction .nil pass0 (pa_cons (pe_op op_add (pe_op op_mulU (pe_ix ix_lt (pv 1) pe_int (fun _ _ => rfl)) (pe_ix ix_lt (pv 2) pe_int (fun _ _ => rfl))) (pe_op op_mulU (pe_ix ix_lt (pv 2) pe_int (fun _ _ => rfl)) (pe_ix ix_lt (pv 1) pe_int (fun _ _ => rfl)))) (pa_cons (pe_op op_mulU (pe_ix ix_lt (pv 1) pe_int (fun _ _ => rfl)) (pe_ix ix_lt (pv 2) pe_int (fun _ _ => rfl))) pa_nil))))))
/-! ### _law_ends_right -/
theorem sc__law_ends_right : FnScope ["dice", "two", "some", "bad", "none", "end", "far", "low", "high", "told", "due", "call", "word"] ["dice", "two"] (defScope s__law_ends_right) := ⟨rfl, rfl, rfl, by decide +kernel, rfl, by decide +kernel, by decide +kernel⟩
def sp__law_ends_right (K : PySem.W.Frag) : Sp := fun vs H Q _ => ∃ (D : Addr) (two : V), vs = [.ref D, two] ∧ Dice H D ∧ Pl H [D] twoD two ∧ LamX.Tabs (Ts K) H ∧ ∀ H', KN [D] H H' → Dice H' D → LamX.Tabs (Ts K) H' → Q (.bl true) H'
theorem len__law_ends_right {K : PySem.W.Frag} {vs : List V} {H : Hp} {Q : VK} {E : XK} (h : sp__law_ends_right K vs H Q E) : vs.length = ["dice", "two"].length := by
  obtain ⟨_, _, rfl, _⟩ := h
  rfl
def t__law_ends_right_f1_b (K : PySem.W.Frag) : TS := (tSeq (tDrop (tBM K "list" rAppend (tVar 9) (tCons (LamX.tLam (Ts K) (TMet K) (fun E => (tCallS 11 (fun f sp => (f = He.ga K "roots_answer" ∧ sp = sp_roots_answer K) ∨ (f = He.ga K "alone_answer" ∧ sp = sp_alone_answer K)) E (tCons (tVar 3) (tCons (tVar 5) (tCons (tVar 6) tNil)))))) tNil)))
  (tSeq (tDrop (tBM K "list" rAppend (tVar 9) (tCons (LamX.tLam (Ts K) (TMet K) (fun E => (tCallS 11 (fun f sp => (f = He.ga K "roots_answer" ∧ sp = sp_roots_answer K) ∨ (f = He.ga K "alone_answer" ∧ sp = sp_alone_answer K)) E (tCons (tVar 4) (tCons (tVar 5) (tCons (tVar 6) tNil)))))) tNil)))
  (tSeq (tDrop (tBM K "list" rAppend (tVar 9) (tCons (LamX.tLam (Ts K) (TMet K) (fun E => (tCallS 11 (fun f sp => (f = He.ga K "roots_answer" ∧ sp = sp_roots_answer K) ∨ (f = He.ga K "alone_answer" ∧ sp = sp_alone_answer K)) E (tCons (tVar 1) (tCons (tVar 5) (tCons (tVar 6) tNil)))))) tNil)))
  (tSeq (tDrop (tBM K "list" rAppend (tVar 9) (tCons (LamX.tLam (Ts K) (TMet K) (fun E => (tCallS 11 (fun f sp => (f = He.ga K "roots_answer" ∧ sp = sp_roots_answer K) ∨ (f = He.ga K "alone_answer" ∧ sp = sp_alone_answer K)) E (tCons (tVar 1) (tCons (tC .non) (tCons (tVar 5) tNil)))))) tNil)))
  (tSeq (tDrop (tBM K "list" rAppend (tVar 9) (tCons (LamX.tLam (Ts K) (TMet K) (fun E => (tCallS 11 (fun f sp => (f = He.ga K "roots_answer" ∧ sp = sp_roots_answer K) ∨ (f = He.ga K "alone_answer" ∧ sp = sp_alone_answer K)) E (tCons (tVar 1) (tCons (tVar 7) (tCons (tVar 8) tNil)))))) tNil)))
  (tDrop (tBM K "list" rExtend (tVar 10) (tCons (tLst (tCons (tC (.str "poly")) (tCons (tC (.str "poly")) (tCons (tOp rAddS (tC (.str "number ")) (tCB (rRepV K) (tCons (tVar 5) tNil))) (tCons (tOp rAddS (tC (.str "number ")) (tCB (rRepV K) (tCons (tVar 5) tNil))) (tCons (tC (.str "operation")) tNil)))))) tNil))))))))
def t__law_ends_right_k2_b (K : PySem.W.Frag) : TS := (tSeq (tDrop (tBM K "list" rAppend (tVar 9) (tCons (LamX.tLam (Ts K) (TMet K) (fun E => (tCall (sp_root_order_answer K) [] E (tCons (tVar 1) (tCons (tVar 5) (tCons (tVar 6) (tCons (tVar 3) (tCons (tVar 6) (tCons (tVar 6) tNil))))))))) tNil)))
  (tSeq (tDrop (tBM K "list" rAppend (tVar 9) (tCons (LamX.tLam (Ts K) (TMet K) (fun E => (tCall (sp_root_order_answer K) [] E (tCons (tVar 1) (tCons (tC .non) (tCons (tTup (tCons (tC (.int 0)) (tCons (tC (.int 1)) tNil))) (tCons (tVar 4) (tCons (tVar 6) (tCons (tVar 6) tNil))))))))) tNil)))
  (tSeq (tDrop (tBM K "list" rAppend (tVar 9) (tCons (LamX.tLam (Ts K) (TMet K) (fun E => (tCall (sp_root_order_answer K) [] E (tCons (tVar 1) (tCons (tVar 7) (tCons (tVar 8) (tCons (tVar 1) (tCons (tVar 5) (tCons (tVar 6) tNil))))))))) tNil)))
  (tSeq (tDrop (tBM K "list" rAppend (tVar 9) (tCons (LamX.tLam (Ts K) (TMet K) (fun E => (tCall (sp_root_order_answer K) [] E (tCons (tVar 1) (tCons (tVar 7) (tCons (tVar 8) (tCons (tVar 1) (tCons (tC .non) (tCons (tC .non) tNil))))))))) tNil)))
  (tSeq (tDrop (tBM K "list" rAppend (tVar 9) (tCons (LamX.tLam (Ts K) (TMet K) (fun E => (tCall (sp_root_order_answer K) [] E (tCons (tVar 1) (tCons (tC .non) (tCons (tTup (tCons (tC (.int 0)) (tCons (tC (.int 1)) tNil))) (tCons (tVar 1) (tCons (tVar 7) (tCons (tVar 8) tNil))))))))) tNil)))
  (tSeq (tDrop (tBM K "list" rExtend (tVar 10) (tCons (tLst (tCons (tOp rAddS (tC (.str "number ")) (tCB (rRepV K) (tCons (tVar 5) tNil))) (tCons (tC (.str "poly")) (tCons (tOp rAddS (tC (.str "number ")) (tCB (rRepV K) (tCons (tVar 5) tNil))) (tCons (tC (.str "operation")) (tCons (tC (.str "operation")) tNil)))))) tNil)))
  (tRet (tOp (rEqD K) (tVar 9) (tLc (iList K (tVar 10)) (gName 12) tYes (tTup (tCons (tC (.str "refused")) (tCons (tVar 12) tNil))) [12])))))))))
def t__law_ends_right_k3_b (K : PySem.W.Frag) : TS := (tSeq (tDrop (tBM K "list" rAppend (tVar 9) (tCons (LamX.tLam (Ts K) (TMet K) (fun E => (tCall (sp_sign_answer K) [] E (tCons (tVar 4) (tCons (tVar 3) (tCons (tVar 5) (tCons (tVar 6) tNil))))))) tNil)))
  (tSeq (tDrop (tBM K "list" rAppend (tVar 9) (tCons (LamX.tLam (Ts K) (TMet K) (fun E => (tCall (sp_sign_answer K) [] E (tCons (tVar 1) (tCons (tVar 3) (tCons (tVar 5) (tCons (tVar 6) tNil))))))) tNil)))
  (tSeq (tDrop (tBM K "list" rAppend (tVar 9) (tCons (LamX.tLam (Ts K) (TMet K) (fun E => (tCall (sp_sign_answer K) [] E (tCons (tVar 1) (tCons (tTup tNil) (tCons (tC .non) (tCons (tVar 5) tNil))))))) tNil)))
  (tSeq (tDrop (tBM K "list" rAppend (tVar 9) (tCons (LamX.tLam (Ts K) (TMet K) (fun E => (tCall (sp_sign_answer K) [] E (tCons (tVar 1) (tCons (tVar 1) (tCons (tVar 7) (tCons (tVar 8) tNil))))))) tNil)))
  (tSeq (tDrop (tBM K "list" rExtend (tVar 10) (tCons (tLst (tCons (tC (.str "poly")) (tCons (tC (.str "poly")) (tCons (tOp rAddS (tC (.str "number ")) (tCB (rRepV K) (tCons (tVar 5) tNil))) (tCons (tC (.str "operation")) tNil))))) tNil)))
  (t__law_ends_right_k2_b K))))))
def t__law_ends_right_k4_b (K : PySem.W.Frag) : TS := (tSeq (tPar 9 10 (tCons (tLst tNil) (tCons (tLst tNil) tNil)))
  (tSeq (tFor (iTup K (tTup (tCons (tC (.ref (He.ga K "roots_answer"))) (tCons (tC (.ref (He.ga K "alone_answer"))) tNil)))) (gName 11) (t__law_ends_right_f1_b K))
  (t__law_ends_right_k3_b K)))
def t__law_ends_right (K : PySem.W.Frag) : TS := (tSeq (tAsg (tLst (tCons (tC .non) (tCons (tLst tNil) (tCons (tC (.int 5)) (tCons (tC (.str "1")) (tCons (tTup (tCons (tTup (tCons (tC (.int 1)) (tCons (tC (.int 1)) tNil))) (tCons (tTup (tCons (tC (.int 0)) (tCons (tC (.int 1)) tNil))) tNil))) (tCons (tTup (tCons (tTup (tCons (tC (.int 2)) (tCons (tC (.int 4)) tNil))) tNil)) (tCons (tTup (tCons (tC (.int 1)) (tCons (tC (.int 2)) tNil))) (tCons (tTup (tCons (tTup (tCons (tC (.int 1)) (tCons (tC (.int 1)) tNil))) (tCons (tC (.bl true)) tNil))) (tCons (tOp (rRepT K) (tTup (tCons (tTup (tCons (tC (.int 1)) (tCons (tC (.int 1)) tNil))) tNil)) (tC (.int 14))) (tCons tDNewK (tCons (tTup (tCons (tTup (tCons (tC (.int 1)) (tCons (tC (.int 0)) tNil))) tNil)) tNil)))))))))))) (gName 2))
  (tSeq (tAsg (tTup (tCons (tCall (sp__law_pick K) [] E0 (tCons (tVar 0) (tCons (tVar 2) tNil))) (tCons (tCall (sp__law_pick K) [] E0 (tCons (tVar 0) (tCons (tLst (tCons (tTup tNil) (tCons (tC .non) (tCons (tC (.str "poly")) tNil)))) tNil))) tNil))) (gTup K 2 (gCons (gName 3) (gCons (gName 4) gNil))))
  (tSeq (tAsg (tCall (sp__law_pick K) [] E0 (tCons (tVar 0) (tCons (tLst (tCons (tC (.int 0)) (tCons (tC (.bl true)) (tCons (tC (.str "1")) (tCons (tTup (tCons (tC (.int 2)) (tCons (tC (.int 4)) tNil))) (tCons (tTup (tCons (tC (.int 1)) (tCons (tC (.int 0)) tNil))) (tCons (tTup (tCons (tC (.int 1)) (tCons (tUn rNeg (tC (.int 2))) tNil))) (tCons (tLst (tCons (tC (.int 1)) (tCons (tC (.int 2)) tNil))) (tCons (tTup (tCons (tC (.int 1)) tNil)) (tCons tDNewK (tCons (tTup (tCons (tOp rPowU (tC (.int 10)) (tC (.int 60))) (tCons (tC (.int 1)) tNil))) tNil))))))))))) tNil))) (gName 5))
  (tSeq (tAsg (tCall (sp__law_pick K) [] E0 (tCons (tVar 0) (tCons (tLst (tCons (tC (.int 0)) (tCons (tC (.str "None")) (tCons (tTup (tCons (tC (.int 0)) (tCons (tC (.int 2)) tNil))) (tCons (tTup tNil) tNil))))) tNil))) (gName 6))
  (tSeq (tAsg (tTup (tCons (tOp rSub (tCall (sp__law_roll K) [] E0 (tCons (tVar 0) (tCons (tC (.int 9)) tNil))) (tC (.int 4))) (tCons (tC (.int 1)) tNil))) (gName 7))
  (tSeq (tAsg (tCall (sp__law_pick K) [] E0 (tCons (tVar 0) (tCons (tLst (tCons (tVar 7) (tCons (tCall (sp__law_plus K) [] E0 (tCons (tC (.int 0)) (tCons (tVar 7) (tCons (tTup (tCons (tUn rNeg (tC (.int 1))) (tCons (tC (.int 2)) tNil))) tNil)))) tNil))) tNil))) (gName 8))
  (t__law_ends_right_k4_b K)))))))
theorem pure__law_ends_right (K : PySem.W.Frag) (vs : List V) (H : Hp) (Q : VK) (E : XK) (h : sp__law_ends_right K vs H Q E) : t__law_ends_right K { nx := fun _ H' => Q .non H', rt := Q } (start ["dice", "two", "some", "bad", "none", "end", "far", "low", "high", "told", "due", "call", "word"] vs) H := by
  obtain ⟨D, two, rfl, hD, pT, hT, hq⟩ := h
  have k2 : ∀ (sm bad nn en far lo hi : V) (db dn de : PyData) (m x y : Int) (M L : Addr) (o11 : Option V) (ss : List Str) (H1 : Hp), (db ∈ someD ∧ dn ∈ noneD ∧ de ∈ endsD ∧ HiOk m x y) → W3 K D H (v37 two bad nn en lo hi db dn de m x y) L M (ss.map rf) ss H1 → ss.length ≤ 14 → New H D [L] M → New H D [] L →
      t__law_ends_right_k2_b K { nx := fun _ H' => Q V.non H', rt := Q } [some (V.ref D), some two, some sm, some bad, some nn, some en, some far, some lo, some hi, some (V.ref L), some (V.ref M), o11, none] H1 := by
    intro sm bad nn en far lo hi db dn de m x y M L o11 ss H1 hd s hl nM nL
    obtain ⟨mb, mn, me, hh⟩ := id hd
    have shE := ends_shw _ me
    unfold shwOk at shE
    rw [Bool.and_eq_true, Bool.and_eq_true, decide_eq_true_eq] at shE
    unfold t__law_ends_right_k2_b
    walk_at "z"
    refine app3 s (by first | omega | (simp; done) | (simp; omega)) (nW_ok (ends_shw _ me)) (fun H5 Q5 c5 hQ5 => met_number (c5.odd (en, de) (by simp)).1 (ends_shw _ me) (fun E5 Q6 hR => ?_) hQ5) fun H6 s => ?_
    · walk_at "z"
      exact ⟨_, _, _, _, _, _, rfl, .inr ⟨_, (mkT (c5.odd (two, twoD) (by simp)).1), two_ne, .inl (mkE me (c5.odd (en, de) (by simp)).1 hR)⟩⟩
    refine app3 (w := pW) s (by first | omega | (simp; done) | (simp; omega)) (by decide +kernel) (fun H5 Q5 c5 hQ5 => met_poly (fun E5 Q6 hR => ?_) hQ5) fun H6 s => ?_
    · walk_at "z"
      refine ⟨by decide, fun a h => ?_⟩
      have sa := same_upd (o := .tup [V.int 0, V.int 1]) h
      have p01 : Pl (upd H5 a (.tup [V.int 0, V.int 1])) [] (.tuple [.int 0, .int 1]) (.ref a) := plT0 upd_same (plC (by rw [Pl]) (plC (by rw [Pl]) plN))
      replace c5 := c5.same sa
      replace hR := hR.same sa
      exact ⟨_, _, _, _, _, _, rfl, .inr ⟨_, (mkT (c5.odd (two, twoD) (by simp)).1), two_ne, .inr ⟨_, mkNo, .inr ⟨_, mkN p01 (by decide +kernel), .inl (mkZ (none_z _ mn) (c5.odd (nn, dn) (by simp)).1 hR)⟩⟩⟩⟩
    refine app3 s (by first | omega | (simp; done) | (simp; omega)) (nW_ok (ends_shw _ me)) (fun H5 Q5 c5 hQ5 => met_number (c5.odd (en, de) (by simp)).1 (ends_shw _ me) (fun E5 Q6 hR => ?_) hQ5) fun H6 s => ?_
    · walk_at "z"
      exact ⟨_, _, _, _, _, _, rfl, .inr ⟨_, (mkT (c5.odd (two, twoD) (by simp)).1), two_ne, .inr ⟨_, (mkN (c5.odd (lo, .tuple [.int m, .int 1]) (by simp)).1 hh.1), .inr ⟨_, (mkN (c5.odd (hi, .tuple [.int x, .int y]) (by simp)).1 hh.2.1), .inr ⟨_, (mkT (c5.odd (two, twoD) (by simp)).1), two_ne, .inl (mkE me (c5.odd (en, de) (by simp)).1 hR)⟩⟩⟩⟩⟩
    refine app3 (w := oW) s (by first | omega | (simp; done) | (simp; omega)) (by decide +kernel) (fun H5 Q5 c5 hQ5 => met_operation (fun E5 Q6 hR => ?_) hQ5) fun H6 s => ?_
    · walk_at "z"
      exact ⟨_, _, _, _, _, _, rfl, .inr ⟨_, (mkT (c5.odd (two, twoD) (by simp)).1), two_ne, .inr ⟨_, (mkN (c5.odd (lo, .tuple [.int m, .int 1]) (by simp)).1 hh.1), .inr ⟨_, (mkN (c5.odd (hi, .tuple [.int x, .int y]) (by simp)).1 hh.2.1), .inr ⟨_, (mkT (c5.odd (two, twoD) (by simp)).1), two_ne, .inr ⟨_, mkNo, .inr ⟨_, mkNo, .inl ⟨hh.2.2, hR⟩⟩⟩⟩⟩⟩⟩⟩
    refine app3 (w := oW) s (by first | omega | (simp; done) | (simp; omega)) (by decide +kernel) (fun H5 Q5 c5 hQ5 => met_operation (fun E5 Q6 hR => ?_) hQ5) fun H6 s => ?_
    · walk_at "z"
      refine ⟨by decide, fun a h => ?_⟩
      have sa := same_upd (o := .tup [V.int 0, V.int 1]) h
      have p01 : Pl (upd H5 a (.tup [V.int 0, V.int 1])) [] (.tuple [.int 0, .int 1]) (.ref a) := plT0 upd_same (plC (by rw [Pl]) (plC (by rw [Pl]) plN))
      replace c5 := c5.same sa
      replace hR := hR.same sa
      exact ⟨_, _, _, _, _, _, rfl, .inr ⟨_, (mkT (c5.odd (two, twoD) (by simp)).1), two_ne, .inr ⟨_, mkNo, .inr ⟨_, mkN p01 (by decide +kernel), .inr ⟨_, (mkT (c5.odd (two, twoD) (by simp)).1), two_ne, .inr ⟨_, (mkN (c5.odd (lo, .tuple [.int m, .int 1]) (by simp)).1 hh.1), .inr ⟨_, (mkN (c5.odd (hi, .tuple [.int x, .int y]) (by simp)).1 hh.2.1), .inr ⟨rfl, .inl ⟨hh.2.2, hR⟩⟩⟩⟩⟩⟩⟩⟩⟩
    refine ⟨tyL s.m, ?_⟩
    refine ⟨en, _, rfl, Pl.rep (s.c.odd (en, de) (by simp)).1 (ends_rep _ me), _, _, rfl, rfl, shE.1.2, ?_⟩
    refine ⟨en, _, rfl, Pl.rep (s.c.odd (en, de) (by simp)).1 (ends_rep _ me), _, _, rfl, rfl, shE.1.2, ?_⟩
    refine ⟨by decide, fun q hq1 => ?_⟩
    refine ext3 (us := ([(("number " : Str) ++ de.shown), "poly", (("number " : Str) ++ de.shown), "operation", "operation"] : List Str)) (s.same (same_upd hq1)) upd_same (by first | omega | (simp; done) | (simp; omega)) fun H7 s => ?_
    have ew : ss.map rf ++ [nW de] ++ [pW] ++ [nW de] ++ [oW] ++ [oW] = (ss ++ ([(("number " : Str) ++ de.shown), "poly", (("number " : Str) ++ de.shown), "operation", "operation"] : List Str)).map rf := by rw [List.map_append]; simp only [List.append_assoc]; rfl
    rw [ew] at s
    walk_at "z"
    refine ⟨M, rfl, ⟨_, sqL_of s.m⟩, comp_due s.m (by first | omega | (simp; omega)) (due_ok s.t) (fun z H8 s8 Qo hQo => ?_) (fun q H8 s8 u => ?_)⟩
    · walk_at "z"
      exact ⟨by decide, fun a h => hQo a _ (same_upd h) upd_same⟩
    · have sF := s.same s8
      refine eq_told sF.t u ?_
      have cF := (sF.c.drop nM).drop nL
      exact hq _ cF.kn cF.dice cF.tb
  have k3 : ∀ (sm bad nn en far lo hi : V) (db dn de : PyData) (m x y : Int) (M L : Addr) (o11 : Option V) (ss : List Str) (H1 : Hp), (db ∈ someD ∧ dn ∈ noneD ∧ de ∈ endsD ∧ HiOk m x y) → W3 K D H (v37 two bad nn en lo hi db dn de m x y) L M (ss.map rf) ss H1 → ss.length ≤ 10 → New H D [L] M → New H D [] L →
      t__law_ends_right_k3_b K { nx := fun _ H' => Q V.non H', rt := Q } [some (V.ref D), some two, some sm, some bad, some nn, some en, some far, some lo, some hi, some (V.ref L), some (V.ref M), o11, none] H1 := by
    intro sm bad nn en far lo hi db dn de m x y M L o11 ss H1 hd s hl nM nL
    obtain ⟨mb, mn, me, hh⟩ := id hd
    have shE := ends_shw _ me
    unfold shwOk at shE
    rw [Bool.and_eq_true, Bool.and_eq_true, decide_eq_true_eq] at shE
    unfold t__law_ends_right_k3_b
    walk_at "z"
    refine app3 (w := pW) s (by first | omega | (simp; done) | (simp; omega)) (by decide +kernel) (fun H5 Q5 c5 hQ5 => met_poly (fun E5 Q6 hR => ?_) hQ5) fun H6 s => ?_
    · walk_at "z"
      exact ⟨_, _, _, _, rfl, .inl (mkZ (none_z _ mn) (c5.odd (nn, dn) (by simp)).1 hR)⟩
    refine app3 (w := pW) s (by first | omega | (simp; done) | (simp; omega)) (by decide +kernel) (fun H5 Q5 c5 hQ5 => met_poly (fun E5 Q6 hR => ?_) hQ5) fun H6 s => ?_
    · walk_at "z"
      exact ⟨_, _, _, _, rfl, .inr (.inl ⟨_, (mkT (c5.odd (two, twoD) (by simp)).1), two_ne, (mkB (some_b _ mb) (c5.odd (bad, db) (by simp)).1 hR)⟩)⟩
    refine app3 s (by first | omega | (simp; done) | (simp; omega)) (nW_ok (ends_shw _ me)) (fun H5 Q5 c5 hQ5 => met_number (c5.odd (en, de) (by simp)).1 (ends_shw _ me) (fun E5 Q6 hR => ?_) hQ5) fun H6 s => ?_
    · walk_at "z"
      refine ⟨by decide, fun a h => ?_⟩
      have sa := same_upd (o := .tup []) h
      have g0 : GoodQ (upd H5 a (.tup [])) (.ref a) [] := mkNil (plT0 upd_same plN)
      replace c5 := c5.same sa
      replace hR := hR.same sa
      exact ⟨_, _, _, _, rfl, .inr (.inr ⟨_, g0, .inl (.inr ⟨_, (mkT (c5.odd (two, twoD) (by simp)).1), two_ne, .inr ⟨_, mkNo, .inl (mkE me (c5.odd (en, de) (by simp)).1 hR)⟩⟩)⟩)⟩
    refine app3 (w := oW) s (by first | omega | (simp; done) | (simp; omega)) (by decide +kernel) (fun H5 Q5 c5 hQ5 => met_operation (fun E5 Q6 hR => ?_) hQ5) fun H6 s => ?_
    · walk_at "z"
      exact ⟨_, _, _, _, rfl, .inr (.inr ⟨_, (mkT (c5.odd (two, twoD) (by simp)).1), .inl (.inr ⟨_, (mkT (c5.odd (two, twoD) (by simp)).1), two_ne, .inr ⟨_, (mkN (c5.odd (lo, .tuple [.int m, .int 1]) (by simp)).1 hh.1), .inr ⟨_, (mkN (c5.odd (hi, .tuple [.int x, .int y]) (by simp)).1 hh.2.1), hh.2.2, hR⟩⟩⟩)⟩)⟩
    refine ⟨tyL s.m, ?_⟩
    refine ⟨en, _, rfl, Pl.rep (s.c.odd (en, de) (by simp)).1 (ends_rep _ me), _, _, rfl, rfl, shE.1.2, ?_⟩
    refine ⟨by decide, fun q hq1 => ?_⟩
    refine ext3 (us := (["poly", "poly", (("number " : Str) ++ de.shown), "operation"] : List Str)) (s.same (same_upd hq1)) upd_same (by first | omega | (simp; done) | (simp; omega)) fun H7 s => ?_
    have ew : ss.map rf ++ [pW] ++ [pW] ++ [nW de] ++ [oW] = (ss ++ (["poly", "poly", (("number " : Str) ++ de.shown), "operation"] : List Str)).map rf := by rw [List.map_append]; simp only [List.append_assoc]; rfl
    rw [ew] at s
    walk_at "z"
    exact k2 sm bad nn en far lo hi db dn de m x y M L o11 _ H7 hd s (by first | omega | (simp; omega)) nM nL
  have k4 : ∀ (sm bad nn en far lo hi : V) (db dn de : PyData) (m x y : Int) (H1 : Hp), (db ∈ someD ∧ dn ∈ noneD ∧ de ∈ endsD ∧ HiOk m x y) → Cxt K D H [] (v37 two bad nn en lo hi db dn de m x y) H1 →
      t__law_ends_right_k4_b K { nx := fun _ H' => Q V.non H', rt := Q } [some (V.ref D), some two, some sm, some bad, some nn, some en, some far, some lo, some hi, none, none, none, none] H1 := by
    intro sm bad nn en far lo hi db dn de m x y H1 hd c
    obtain ⟨mb, mn, me, hh⟩ := id hd
    have shE := ends_shw _ me
    unfold shwOk at shE
    rw [Bool.and_eq_true, Bool.and_eq_true, decide_eq_true_eq] at shE
    unfold t__law_ends_right_k4_b
    walk_at "z"
    refine ⟨by decide, fun L hL => ⟨by decide, fun M hM => ?_⟩⟩
    have nL := c.new hL
    have c1 := c.list (xs := []) hL
    have e1 : upd H1 L (.lst []) L = some (.lst []) := upd_same
    generalize upd H1 L (.lst []) = H2 at *
    have nM := c1.new hM
    have c2 := c1.list (xs := []) hM
    have neLM : L ≠ M := fun e => by rw [e, hM] at e1; cases e1
    have e2 : upd H2 M (.lst []) M = some (.lst []) := upd_same
    have e1 := same_upd (o := .lst []) hM _ _ e1
    generalize upd H2 M (.lst []) = H3 at *
    have s : W3 K D H (v37 two bad nn en lo hi db dn de m x y) L M [] [] H3 := ⟨c2, ⟨[], e1, .nil⟩, e2, neLM⟩
    walk_at "z"
    refine ⟨by decide, fun p hp => ⟨p, rfl, ⟨_, sqT_of upd_same⟩, ?_⟩⟩
    obtain ⟨fs, hfs⟩ : ∃ fs : List V, [V.ref (He.ga K "roots_answer"), V.ref (He.ga K "alone_answer")] = fs := ⟨_, rfl⟩
    have hF : fs.length = 2 ∧ ∀ x ∈ fs, ∃ f sp, x = .ref f ∧ F2 K f sp := by
      subst hfs
      refine ⟨rfl, fun x hx => ?_⟩
      simp only [List.mem_cons, List.not_mem_nil, or_false] at hx
      rcases hx with rfl | rfl
      · exact ⟨_, _, rfl, .inl ⟨rfl, rfl⟩⟩
      · exact ⟨_, _, rfl, .inr ⟨rfl, rfl⟩⟩
    rw [hfs]
    clear hfs
    have np : p ∉ [D, M, L] := fun hb => by
      obtain ⟨_, _, _, e⟩ := c2.dice
      simp only [List.mem_cons, List.not_mem_nil, or_false] at hb
      rcases hb with rfl | rfl | rfl
      · rw [hp] at e; cases e
      · rw [hp] at e2; cases e2
      · rw [hp] at e1; cases e1
    have sp := same_upd (o := .tup fs) hp
    have ep : upd H3 p (.tup fs) p = some (.tup fs) := upd_same
    generalize upd H3 p (.tup fs) = H4 at *
    have s := s.same sp
    have k0 := s.c.kn
    replace s := s.restart
    refine for_T (xs := fs) (fun i σ H' => ∃ ss o11, σ = [some (V.ref D), some two, some sm, some bad, some nn, some en, some far, some lo, some hi, some (V.ref L), some (V.ref M), o11, none] ∧ W3 K D H4 (v37 two bad nn en lo hi db dn de m x y) L M (ss.map rf) ss H' ∧ ss.length ≤ 5 * i) ⟨[], none, rfl, s, by simp⟩ (fun i σ H' _ h => by
      obtain ⟨_, _, _, e, _⟩ := h
      exact sqT_of (e.c.kn p _ np ep (fun _ z => by cases z))) (fun i v σ H' hx h N hN => ?_) (fun σ H' h => ?_)
    · obtain ⟨ss, o11, rfl, s, hl⟩ := h
      obtain ⟨f, sp, rfl, hS⟩ := hF.2 v (List.mem_of_getElem? hx)
      have i7 : i < 2 := by rw [← hF.1]; exact (List.getElem?_eq_some_iff.mp hx).1
      unfold t__law_ends_right_f1_b
      walk_at "z"
      refine app3 (w := pW) s (by first | omega | (simp; done) | (simp; omega)) (by decide +kernel) (fun H5 Q5 c5 hQ5 => met_poly (fun E5 Q6 hR => ?_) hQ5) fun H6 s => ?_
      · walk_at "z"
        exact ⟨f, sp, rfl, hS, b2 hS (.inl (.inl (mkB (some_b _ mb) (c5.odd (bad, db) (by simp)).1 hR)))⟩
      refine app3 (w := pW) s (by first | omega | (simp; done) | (simp; omega)) (by decide +kernel) (fun H5 Q5 c5 hQ5 => met_poly (fun E5 Q6 hR => ?_) hQ5) fun H6 s => ?_
      · walk_at "z"
        exact ⟨f, sp, rfl, hS, b2 hS (.inl (mkZ (none_z _ mn) (c5.odd (nn, dn) (by simp)).1 hR))⟩
      refine app3 s (by first | omega | (simp; done) | (simp; omega)) (nW_ok (ends_shw _ me)) (fun H5 Q5 c5 hQ5 => met_number (c5.odd (en, de) (by simp)).1 (ends_shw _ me) (fun E5 Q6 hR => ?_) hQ5) fun H6 s => ?_
      · walk_at "z"
        exact ⟨f, sp, rfl, hS, b2 hS (.inr ⟨_, (mkT (c5.odd (two, twoD) (by simp)).1), two_ne, .inl (mkE me (c5.odd (en, de) (by simp)).1 hR)⟩)⟩
      refine app3 s (by first | omega | (simp; done) | (simp; omega)) (nW_ok (ends_shw _ me)) (fun H5 Q5 c5 hQ5 => met_number (c5.odd (en, de) (by simp)).1 (ends_shw _ me) (fun E5 Q6 hR => ?_) hQ5) fun H6 s => ?_
      · walk_at "z"
        exact ⟨f, sp, rfl, hS, b2 hS (.inr ⟨_, (mkT (c5.odd (two, twoD) (by simp)).1), two_ne, .inr ⟨_, mkNo, .inl (mkE me (c5.odd (en, de) (by simp)).1 hR)⟩⟩)⟩
      refine app3 (w := oW) s (by first | omega | (simp; done) | (simp; omega)) (by decide +kernel) (fun H5 Q5 c5 hQ5 => met_operation (fun E5 Q6 hR => ?_) hQ5) fun H6 s => ?_
      · walk_at "z"
        exact ⟨f, sp, rfl, hS, b2 hS (.inr ⟨_, (mkT (c5.odd (two, twoD) (by simp)).1), two_ne, .inr ⟨_, (mkN (c5.odd (lo, .tuple [.int m, .int 1]) (by simp)).1 hh.1), .inr ⟨_, (mkN (c5.odd (hi, .tuple [.int x, .int y]) (by simp)).1 hh.2.1), hh.2.2, hR⟩⟩⟩)⟩
      refine ⟨tyL s.m, ?_⟩
      refine ⟨en, _, rfl, Pl.rep (s.c.odd (en, de) (by simp)).1 (ends_rep _ me), _, _, rfl, rfl, shE.1.2, ?_⟩
      refine ⟨en, _, rfl, Pl.rep (s.c.odd (en, de) (by simp)).1 (ends_rep _ me), _, _, rfl, rfl, shE.1.2, ?_⟩
      refine ⟨by decide, fun q hq1 => ?_⟩
      refine ext3 (us := (["poly", "poly", (("number " : Str) ++ de.shown), (("number " : Str) ++ de.shown), "operation"] : List Str)) (s.same (same_upd hq1)) upd_same (by first | omega | (simp; done) | (simp; omega)) fun H7 s => ?_
      have ew : ss.map rf ++ [pW] ++ [pW] ++ [nW de] ++ [nW de] ++ [oW] = (ss ++ (["poly", "poly", (("number " : Str) ++ de.shown), (("number " : Str) ++ de.shown), "operation"] : List Str)).map rf := by rw [List.map_append]; simp only [List.append_assoc]; rfl
      rw [ew] at s
      walk_at "z"
      exact hN _ _ ⟨_, _, rfl, s, by first | omega | (simp; omega)⟩
    · obtain ⟨ss, o11, rfl, s, hl⟩ := h
      rw [hF.1] at hl
      walk_at "z"
      exact k3 sm bad nn en far lo hi db dn de m x y M L o11 ss H' hd (s.back k0) hl nM nL
  unfold t__law_ends_right
  walk_at "z"
  have hDi := hD
  have hDf := hD.lsts
  refine ⟨by decide, fun am1 hm1 => ?_⟩
  have nm1 : am1 ∉ [D] := hDf.new hm1
  have sm1 := same_upd (o := .lst []) hm1
  have em1 : upd H am1 (.lst []) am1 = some (.lst []) := upd_same
  generalize upd H am1 (.lst []) = Gm1 at *
  replace hDf := hDf.same sm1
  have pm1 : Pl Gm1 [D] (.list []) (.ref am1) := plL2 nm1 em1 plN
  refine ⟨by decide, fun am2 hm2 => ?_⟩
  have nm2 : am2 ∉ [D] := hDf.new hm2
  have sm2 := same_upd (o := .tup [.int (1), .int (1)]) hm2
  have em2 : upd Gm1 am2 (.tup [.int (1), .int (1)]) am2 = some (.tup [.int (1), .int (1)]) := upd_same
  generalize upd Gm1 am2 (.tup [.int (1), .int (1)]) = Gm2 at *
  replace hDf := hDf.same sm2
  have pm2 : Pl Gm2 [D] (.tuple [.int (1), .int (1)]) (.ref am2) := plT2 hDf em2 (plC (by rw [Pl]) (plC (by rw [Pl]) plN))
  refine ⟨by decide, fun am3 hm3 => ?_⟩
  have nm3 : am3 ∉ [D] := hDf.new hm3
  have sm3 := same_upd (o := .tup [.int (0), .int (1)]) hm3
  have em3 : upd Gm2 am3 (.tup [.int (0), .int (1)]) am3 = some (.tup [.int (0), .int (1)]) := upd_same
  generalize upd Gm2 am3 (.tup [.int (0), .int (1)]) = Gm3 at *
  replace hDf := hDf.same sm3
  have pm3 : Pl Gm3 [D] (.tuple [.int (0), .int (1)]) (.ref am3) := plT2 hDf em3 (plC (by rw [Pl]) (plC (by rw [Pl]) plN))
  refine ⟨by decide, fun am4 hm4 => ?_⟩
  have nm4 : am4 ∉ [D] := hDf.new hm4
  have sm4 := same_upd (o := .tup [V.ref am2, V.ref am3]) hm4
  have em4 : upd Gm3 am4 (.tup [V.ref am2, V.ref am3]) am4 = some (.tup [V.ref am2, V.ref am3]) := upd_same
  generalize upd Gm3 am4 (.tup [V.ref am2, V.ref am3]) = Gm4 at *
  replace hDf := hDf.same sm4
  have pm4 : Pl Gm4 [D] (.tuple [(.tuple [.int (1), .int (1)]), (.tuple [.int (0), .int (1)])]) (.ref am4) := plT2 hDf em4 (plC (pm2.same (by walk_at "ss")) (plC (pm3.same (by walk_at "ss")) plN))
  refine ⟨by decide, fun am5 hm5 => ?_⟩
  have nm5 : am5 ∉ [D] := hDf.new hm5
  have sm5 := same_upd (o := .tup [.int (2), .int (4)]) hm5
  have em5 : upd Gm4 am5 (.tup [.int (2), .int (4)]) am5 = some (.tup [.int (2), .int (4)]) := upd_same
  generalize upd Gm4 am5 (.tup [.int (2), .int (4)]) = Gm5 at *
  replace hDf := hDf.same sm5
  have pm5 : Pl Gm5 [D] (.tuple [.int (2), .int (4)]) (.ref am5) := plT2 hDf em5 (plC (by rw [Pl]) (plC (by rw [Pl]) plN))
  refine ⟨by decide, fun am6 hm6 => ?_⟩
  have nm6 : am6 ∉ [D] := hDf.new hm6
  have sm6 := same_upd (o := .tup [V.ref am5]) hm6
  have em6 : upd Gm5 am6 (.tup [V.ref am5]) am6 = some (.tup [V.ref am5]) := upd_same
  generalize upd Gm5 am6 (.tup [V.ref am5]) = Gm6 at *
  replace hDf := hDf.same sm6
  have pm6 : Pl Gm6 [D] (.tuple [(.tuple [.int (2), .int (4)])]) (.ref am6) := plT2 hDf em6 (plC (pm5.same (by walk_at "ss")) plN)
  refine ⟨by decide, fun am7 hm7 => ?_⟩
  have nm7 : am7 ∉ [D] := hDf.new hm7
  have sm7 := same_upd (o := .tup [.int (1), .int (2)]) hm7
  have em7 : upd Gm6 am7 (.tup [.int (1), .int (2)]) am7 = some (.tup [.int (1), .int (2)]) := upd_same
  generalize upd Gm6 am7 (.tup [.int (1), .int (2)]) = Gm7 at *
  replace hDf := hDf.same sm7
  have pm7 : Pl Gm7 [D] (.tuple [.int (1), .int (2)]) (.ref am7) := plT2 hDf em7 (plC (by rw [Pl]) (plC (by rw [Pl]) plN))
  refine ⟨by decide, fun am8 hm8 => ?_⟩
  have nm8 : am8 ∉ [D] := hDf.new hm8
  have sm8 := same_upd (o := .tup [.int (1), .int (1)]) hm8
  have em8 : upd Gm7 am8 (.tup [.int (1), .int (1)]) am8 = some (.tup [.int (1), .int (1)]) := upd_same
  generalize upd Gm7 am8 (.tup [.int (1), .int (1)]) = Gm8 at *
  replace hDf := hDf.same sm8
  have pm8 : Pl Gm8 [D] (.tuple [.int (1), .int (1)]) (.ref am8) := plT2 hDf em8 (plC (by rw [Pl]) (plC (by rw [Pl]) plN))
  refine ⟨by decide, fun am9 hm9 => ?_⟩
  have nm9 : am9 ∉ [D] := hDf.new hm9
  have sm9 := same_upd (o := .tup [V.ref am8, .bl true]) hm9
  have em9 : upd Gm8 am9 (.tup [V.ref am8, .bl true]) am9 = some (.tup [V.ref am8, .bl true]) := upd_same
  generalize upd Gm8 am9 (.tup [V.ref am8, .bl true]) = Gm9 at *
  replace hDf := hDf.same sm9
  have pm9 : Pl Gm9 [D] (.tuple [(.tuple [.int (1), .int (1)]), .bool true]) (.ref am9) := plT2 hDf em9 (plC (pm8.same (by walk_at "ss")) (plC (by rw [Pl]) plN))
  refine ⟨by decide, fun am10 hm10 => ?_⟩
  have nm10 : am10 ∉ [D] := hDf.new hm10
  have sm10 := same_upd (o := .tup [.int (1), .int (1)]) hm10
  have em10 : upd Gm9 am10 (.tup [.int (1), .int (1)]) am10 = some (.tup [.int (1), .int (1)]) := upd_same
  generalize upd Gm9 am10 (.tup [.int (1), .int (1)]) = Gm10 at *
  replace hDf := hDf.same sm10
  have pm10 : Pl Gm10 [D] (.tuple [.int (1), .int (1)]) (.ref am10) := plT2 hDf em10 (plC (by rw [Pl]) (plC (by rw [Pl]) plN))
  refine ⟨by decide, fun am11 hm11 => ?_⟩
  have nm11 : am11 ∉ [D] := hDf.new hm11
  have sm11 := same_upd (o := .tup [V.ref am10]) hm11
  have em11 : upd Gm10 am11 (.tup [V.ref am10]) am11 = some (.tup [V.ref am10]) := upd_same
  generalize upd Gm10 am11 (.tup [V.ref am10]) = Gm11 at *
  replace hDf := hDf.same sm11
  refine ⟨am11, 14, [V.ref am10], rfl, rfl, sqT_of em11, by simp, by decide, by decide, by simp, ?_⟩
  rw [show (List.replicate (14 : Int).toNat [V.ref am10]).flatten = List.replicate 14 (V.ref am10) from rfl]
  refine fun am12 hm12 => ?_
  have nm12 : am12 ∉ [D] := hDf.new hm12
  have sm12 := same_upd (o := .tup (List.replicate 14 (V.ref am10))) hm12
  have em12 : upd Gm11 am12 (.tup (List.replicate 14 (V.ref am10))) am12 = some (.tup (List.replicate 14 (V.ref am10))) := upd_same
  generalize upd Gm11 am12 (.tup (List.replicate 14 (V.ref am10))) = Gm12 at *
  replace hDf := hDf.same sm12
  have pm12 : Pl Gm12 [D] (.tuple (List.replicate 14 ((.tuple [.int (1), .int (1)])))) (.ref am12) := plT2 hDf em12 (plRep (pm10.same (by walk_at "ss")) 14)
  refine fun am13 hm13 => ?_
  have nm13 : am13 ∉ [D] := hDf.new hm13
  have sm13 := same_upd (o := .dK []) hm13
  have em13 : upd Gm12 am13 (.dK []) am13 = some (.dK []) := upd_same
  generalize upd Gm12 am13 (.dK []) = Gm13 at *
  replace hDf := hDf.same sm13
  have pm13 : Pl Gm13 [D] (.dict []) (.ref am13) := plK2 hDf em13
  refine ⟨by decide, fun am14 hm14 => ?_⟩
  have nm14 : am14 ∉ [D] := hDf.new hm14
  have sm14 := same_upd (o := .tup [.int (1), .int (0)]) hm14
  have em14 : upd Gm13 am14 (.tup [.int (1), .int (0)]) am14 = some (.tup [.int (1), .int (0)]) := upd_same
  generalize upd Gm13 am14 (.tup [.int (1), .int (0)]) = Gm14 at *
  replace hDf := hDf.same sm14
  have pm14 : Pl Gm14 [D] (.tuple [.int (1), .int (0)]) (.ref am14) := plT2 hDf em14 (plC (by rw [Pl]) (plC (by rw [Pl]) plN))
  refine ⟨by decide, fun am15 hm15 => ?_⟩
  have nm15 : am15 ∉ [D] := hDf.new hm15
  have sm15 := same_upd (o := .tup [V.ref am14]) hm15
  have em15 : upd Gm14 am15 (.tup [V.ref am14]) am15 = some (.tup [V.ref am14]) := upd_same
  generalize upd Gm14 am15 (.tup [V.ref am14]) = Gm15 at *
  replace hDf := hDf.same sm15
  have pm15 : Pl Gm15 [D] (.tuple [(.tuple [.int (1), .int (0)])]) (.ref am15) := plT2 hDf em15 (plC (pm14.same (by walk_at "ss")) plN)
  refine ⟨by decide, fun am16 hm16 => ?_⟩
  have nm16 : am16 ∉ [D] := hDf.new hm16
  have sm16 := same_upd (o := .lst [.non, V.ref am1, .int (5), .str "1", V.ref am4, V.ref am6, V.ref am7, V.ref am9, V.ref am12, V.ref am13, V.ref am15]) hm16
  have em16 : upd Gm15 am16 (.lst [.non, V.ref am1, .int (5), .str "1", V.ref am4, V.ref am6, V.ref am7, V.ref am9, V.ref am12, V.ref am13, V.ref am15]) am16 = some (.lst [.non, V.ref am1, .int (5), .str "1", V.ref am4, V.ref am6, V.ref am7, V.ref am9, V.ref am12, V.ref am13, V.ref am15]) := upd_same
  generalize upd Gm15 am16 (.lst [.non, V.ref am1, .int (5), .str "1", V.ref am4, V.ref am6, V.ref am7, V.ref am9, V.ref am12, V.ref am13, V.ref am15]) = Gm16 at *
  replace hDf := hDf.same sm16
  walk_at "z"
  replace hDi := Dice.same hDi (show Same _ Gm16 by walk_at "ss")
  refine ⟨D, am16, _, rfl, hDi, fun e => nm16 (e ▸ List.mem_cons_self), em16, by simp, by simp, fun bad H1 hv k1 dm16 => ?_⟩
  obtain ⟨db, mb, pB⟩ : ∃ d ∈ someD, Pl H1 [D] d bad := by
    simp only [List.mem_cons, List.not_mem_nil, or_false] at hv
    rcases hv with rfl | rfl | rfl | rfl | rfl | rfl | rfl | rfl | rfl | rfl | rfl
    · exact ⟨.none, List.mem_of_getElem? (i := 0) rfl, Pl.mono (k1.kn) _ _ (by rw [Pl])⟩
    · exact ⟨(.list []), List.mem_of_getElem? (i := 1) rfl, Pl.mono (k1.kn) _ _ (pm1.same (by walk_at "ss"))⟩
    · exact ⟨.int (5), List.mem_of_getElem? (i := 2) rfl, Pl.mono (k1.kn) _ _ (by rw [Pl])⟩
    · exact ⟨.str "1", List.mem_of_getElem? (i := 3) rfl, Pl.mono (k1.kn) _ _ (by rw [Pl])⟩
    · exact ⟨(.tuple [(.tuple [.int (1), .int (1)]), (.tuple [.int (0), .int (1)])]), List.mem_of_getElem? (i := 4) rfl, Pl.mono (k1.kn) _ _ (pm4.same (by walk_at "ss"))⟩
    · exact ⟨(.tuple [(.tuple [.int (2), .int (4)])]), List.mem_of_getElem? (i := 5) rfl, Pl.mono (k1.kn) _ _ (pm6.same (by walk_at "ss"))⟩
    · exact ⟨(.tuple [.int (1), .int (2)]), List.mem_of_getElem? (i := 6) rfl, Pl.mono (k1.kn) _ _ (pm7.same (by walk_at "ss"))⟩
    · exact ⟨(.tuple [(.tuple [.int (1), .int (1)]), .bool true]), List.mem_of_getElem? (i := 7) rfl, Pl.mono (k1.kn) _ _ (pm9.same (by walk_at "ss"))⟩
    · exact ⟨(.tuple (List.replicate 14 ((.tuple [.int (1), .int (1)])))), List.mem_of_getElem? (i := 8) rfl, Pl.mono (k1.kn) _ _ (pm12.same (by walk_at "ss"))⟩
    · exact ⟨.dict [], List.mem_of_getElem? (i := 9) rfl, Pl.mono (k1.kn) _ _ (pm13.same (by walk_at "ss"))⟩
    · exact ⟨(.tuple [(.tuple [.int (1), .int (0)])]), List.mem_of_getElem? (i := 10) rfl, Pl.mono (k1.kn) _ _ (pm15.same (by walk_at "ss"))⟩
  replace hDf := hDf.keep k1 dm16
  replace hDi := dm16
  refine ⟨by decide, fun am17 hm17 => ?_⟩
  have nm17 : am17 ∉ [D] := hDf.new hm17
  have sm17 := same_upd (o := .tup []) hm17
  have em17 : upd H1 am17 (.tup []) am17 = some (.tup []) := upd_same
  generalize upd H1 am17 (.tup []) = Gm17 at *
  replace hDf := hDf.same sm17
  have pm17 : Pl Gm17 [D] (.tuple []) (.ref am17) := plT2 hDf em17 plN
  refine ⟨by decide, fun am18 hm18 => ?_⟩
  have nm18 : am18 ∉ [D] := hDf.new hm18
  have sm18 := same_upd (o := .lst [V.ref am17, .non, .str "poly"]) hm18
  have em18 : upd Gm17 am18 (.lst [V.ref am17, .non, .str "poly"]) am18 = some (.lst [V.ref am17, .non, .str "poly"]) := upd_same
  generalize upd Gm17 am18 (.lst [V.ref am17, .non, .str "poly"]) = Gm18 at *
  replace hDf := hDf.same sm18
  replace hDi := Dice.same hDi (show Same _ Gm18 by walk_at "ss")
  refine ⟨D, am18, _, rfl, hDi, fun e => nm18 (e ▸ List.mem_cons_self), em18, by simp, by simp, fun nn H2 hv k2 dm18 => ?_⟩
  obtain ⟨dn, mn, pN⟩ : ∃ d ∈ noneD, Pl H2 [D] d nn := by
    simp only [List.mem_cons, List.not_mem_nil, or_false] at hv
    rcases hv with rfl | rfl | rfl
    · exact ⟨(.tuple []), List.mem_of_getElem? (i := 0) rfl, Pl.mono (k2.kn) _ _ (pm17.same (by walk_at "ss"))⟩
    · exact ⟨.none, List.mem_of_getElem? (i := 1) rfl, Pl.mono (k2.kn) _ _ (by rw [Pl])⟩
    · exact ⟨.str "poly", List.mem_of_getElem? (i := 2) rfl, Pl.mono (k2.kn) _ _ (by rw [Pl])⟩
  replace hDf := hDf.keep k2 dm18
  replace hDi := dm18
  refine ⟨by decide, fun am19 hm19 => ?_⟩
  have nm19 : am19 ∉ [D] := hDf.new hm19
  have sm19 := same_upd (o := .tup [bad, nn]) hm19
  have em19 : upd H2 am19 (.tup [bad, nn]) am19 = some (.tup [bad, nn]) := upd_same
  generalize upd H2 am19 (.tup [bad, nn]) = Gm19 at *
  replace hDf := hDf.same sm19
  refine ⟨_, sqT_of em19, rfl, ?_⟩
  walk_at "z"
  refine ⟨by decide, fun am20 hm20 => ?_⟩
  have nm20 : am20 ∉ [D] := hDf.new hm20
  have sm20 := same_upd (o := .tup [.int (2), .int (4)]) hm20
  have em20 : upd Gm19 am20 (.tup [.int (2), .int (4)]) am20 = some (.tup [.int (2), .int (4)]) := upd_same
  generalize upd Gm19 am20 (.tup [.int (2), .int (4)]) = Gm20 at *
  replace hDf := hDf.same sm20
  have pm20 : Pl Gm20 [D] (.tuple [.int (2), .int (4)]) (.ref am20) := plT2 hDf em20 (plC (by rw [Pl]) (plC (by rw [Pl]) plN))
  refine ⟨by decide, fun am21 hm21 => ?_⟩
  have nm21 : am21 ∉ [D] := hDf.new hm21
  have sm21 := same_upd (o := .tup [.int (1), .int (0)]) hm21
  have em21 : upd Gm20 am21 (.tup [.int (1), .int (0)]) am21 = some (.tup [.int (1), .int (0)]) := upd_same
  generalize upd Gm20 am21 (.tup [.int (1), .int (0)]) = Gm21 at *
  replace hDf := hDf.same sm21
  have pm21 : Pl Gm21 [D] (.tuple [.int (1), .int (0)]) (.ref am21) := plT2 hDf em21 (plC (by rw [Pl]) (plC (by rw [Pl]) plN))
  refine ⟨by decide, fun am22 hm22 => ?_⟩
  have nm22 : am22 ∉ [D] := hDf.new hm22
  have sm22 := same_upd (o := .tup [.int (1), .int (-2)]) hm22
  have em22 : upd Gm21 am22 (.tup [.int (1), .int (-2)]) am22 = some (.tup [.int (1), .int (-2)]) := upd_same
  generalize upd Gm21 am22 (.tup [.int (1), .int (-2)]) = Gm22 at *
  replace hDf := hDf.same sm22
  have pm22 : Pl Gm22 [D] (.tuple [.int (1), .int (-2)]) (.ref am22) := plT2 hDf em22 (plC (by rw [Pl]) (plC (by rw [Pl]) plN))
  refine ⟨by decide, fun am23 hm23 => ?_⟩
  have nm23 : am23 ∉ [D] := hDf.new hm23
  have sm23 := same_upd (o := .lst [.int (1), .int (2)]) hm23
  have em23 : upd Gm22 am23 (.lst [.int (1), .int (2)]) am23 = some (.lst [.int (1), .int (2)]) := upd_same
  generalize upd Gm22 am23 (.lst [.int (1), .int (2)]) = Gm23 at *
  replace hDf := hDf.same sm23
  have pm23 : Pl Gm23 [D] (.list [.int (1), .int (2)]) (.ref am23) := plL2 nm23 em23 (plC (by rw [Pl]) (plC (by rw [Pl]) plN))
  refine ⟨by decide, fun am24 hm24 => ?_⟩
  have nm24 : am24 ∉ [D] := hDf.new hm24
  have sm24 := same_upd (o := .tup [.int (1)]) hm24
  have em24 : upd Gm23 am24 (.tup [.int (1)]) am24 = some (.tup [.int (1)]) := upd_same
  generalize upd Gm23 am24 (.tup [.int (1)]) = Gm24 at *
  replace hDf := hDf.same sm24
  have pm24 : Pl Gm24 [D] (.tuple [.int (1)]) (.ref am24) := plT2 hDf em24 (plC (by rw [Pl]) plN)
  refine fun am25 hm25 => ?_
  have nm25 : am25 ∉ [D] := hDf.new hm25
  have sm25 := same_upd (o := .dK []) hm25
  have em25 : upd Gm24 am25 (.dK []) am25 = some (.dK []) := upd_same
  generalize upd Gm24 am25 (.dK []) = Gm25 at *
  replace hDf := hDf.same sm25
  have pm25 : Pl Gm25 [D] (.dict []) (.ref am25) := plK2 hDf em25
  refine ⟨cpow (by decide), ?_⟩
  refine ⟨by decide, fun am26 hm26 => ?_⟩
  have nm26 : am26 ∉ [D] := hDf.new hm26
  have sm26 := same_upd (o := .tup [.int (10 ^ Int.toNat 60), .int (1)]) hm26
  have em26 : upd Gm25 am26 (.tup [.int (10 ^ Int.toNat 60), .int (1)]) am26 = some (.tup [.int (10 ^ Int.toNat 60), .int (1)]) := upd_same
  generalize upd Gm25 am26 (.tup [.int (10 ^ Int.toNat 60), .int (1)]) = Gm26 at *
  replace hDf := hDf.same sm26
  have pm26 : Pl Gm26 [D] (.tuple [.int (10 ^ Int.toNat 60), .int (1)]) (.ref am26) := plT2 hDf em26 (plC (by rw [Pl]) (plC (by rw [Pl]) plN))
  refine ⟨by decide, fun am27 hm27 => ?_⟩
  have nm27 : am27 ∉ [D] := hDf.new hm27
  have sm27 := same_upd (o := .lst [.int (0), .bl true, .str "1", V.ref am20, V.ref am21, V.ref am22, V.ref am23, V.ref am24, V.ref am25, V.ref am26]) hm27
  have em27 : upd Gm26 am27 (.lst [.int (0), .bl true, .str "1", V.ref am20, V.ref am21, V.ref am22, V.ref am23, V.ref am24, V.ref am25, V.ref am26]) am27 = some (.lst [.int (0), .bl true, .str "1", V.ref am20, V.ref am21, V.ref am22, V.ref am23, V.ref am24, V.ref am25, V.ref am26]) := upd_same
  generalize upd Gm26 am27 (.lst [.int (0), .bl true, .str "1", V.ref am20, V.ref am21, V.ref am22, V.ref am23, V.ref am24, V.ref am25, V.ref am26]) = Gm27 at *
  replace hDf := hDf.same sm27
  replace hDi := Dice.same hDi (show Same _ Gm27 by walk_at "ss")
  refine ⟨D, am27, _, rfl, hDi, fun e => nm27 (e ▸ List.mem_cons_self), em27, by simp, by simp, fun en H3 hv k3 dm27 => ?_⟩
  obtain ⟨de, me, pE⟩ : ∃ d ∈ endsD, Pl H3 [D] d en := by
    simp only [List.mem_cons, List.not_mem_nil, or_false] at hv
    rcases hv with rfl | rfl | rfl | rfl | rfl | rfl | rfl | rfl | rfl | rfl
    · exact ⟨.int (0), List.mem_of_getElem? (i := 0) rfl, Pl.mono (k3.kn) _ _ (by rw [Pl])⟩
    · exact ⟨.bool true, List.mem_of_getElem? (i := 1) rfl, Pl.mono (k3.kn) _ _ (by rw [Pl])⟩
    · exact ⟨.str "1", List.mem_of_getElem? (i := 2) rfl, Pl.mono (k3.kn) _ _ (by rw [Pl])⟩
    · exact ⟨(.tuple [.int (2), .int (4)]), List.mem_of_getElem? (i := 3) rfl, Pl.mono (k3.kn) _ _ (pm20.same (by walk_at "ss"))⟩
    · exact ⟨(.tuple [.int (1), .int (0)]), List.mem_of_getElem? (i := 4) rfl, Pl.mono (k3.kn) _ _ (pm21.same (by walk_at "ss"))⟩
    · exact ⟨(.tuple [.int (1), .int (-2)]), List.mem_of_getElem? (i := 5) rfl, Pl.mono (k3.kn) _ _ (pm22.same (by walk_at "ss"))⟩
    · exact ⟨(.list [.int (1), .int (2)]), List.mem_of_getElem? (i := 6) rfl, Pl.mono (k3.kn) _ _ (pm23.same (by walk_at "ss"))⟩
    · exact ⟨(.tuple [.int (1)]), List.mem_of_getElem? (i := 7) rfl, Pl.mono (k3.kn) _ _ (pm24.same (by walk_at "ss"))⟩
    · exact ⟨.dict [], List.mem_of_getElem? (i := 8) rfl, Pl.mono (k3.kn) _ _ (pm25.same (by walk_at "ss"))⟩
    · exact ⟨(.tuple [.int (10 ^ Int.toNat 60), .int (1)]), List.mem_of_getElem? (i := 9) rfl, Pl.mono (k3.kn) _ _ (pm26.same (by walk_at "ss"))⟩
  replace hDf := hDf.keep k3 dm27
  replace hDi := dm27
  walk_at "z"
  refine ⟨by decide, fun am28 hm28 => ?_⟩
  have nm28 : am28 ∉ [D] := hDf.new hm28
  have sm28 := same_upd (o := .tup [.int (0), .int (2)]) hm28
  have em28 : upd H3 am28 (.tup [.int (0), .int (2)]) am28 = some (.tup [.int (0), .int (2)]) := upd_same
  generalize upd H3 am28 (.tup [.int (0), .int (2)]) = Gm28 at *
  replace hDf := hDf.same sm28
  have pm28 : Pl Gm28 [D] (.tuple [.int (0), .int (2)]) (.ref am28) := plT2 hDf em28 (plC (by rw [Pl]) (plC (by rw [Pl]) plN))
  refine ⟨by decide, fun am29 hm29 => ?_⟩
  have nm29 : am29 ∉ [D] := hDf.new hm29
  have sm29 := same_upd (o := .tup []) hm29
  have em29 : upd Gm28 am29 (.tup []) am29 = some (.tup []) := upd_same
  generalize upd Gm28 am29 (.tup []) = Gm29 at *
  replace hDf := hDf.same sm29
  have pm29 : Pl Gm29 [D] (.tuple []) (.ref am29) := plT2 hDf em29 plN
  refine ⟨by decide, fun am30 hm30 => ?_⟩
  have nm30 : am30 ∉ [D] := hDf.new hm30
  have sm30 := same_upd (o := .lst [.int (0), .str "None", V.ref am28, V.ref am29]) hm30
  have em30 : upd Gm29 am30 (.lst [.int (0), .str "None", V.ref am28, V.ref am29]) am30 = some (.lst [.int (0), .str "None", V.ref am28, V.ref am29]) := upd_same
  generalize upd Gm29 am30 (.lst [.int (0), .str "None", V.ref am28, V.ref am29]) = Gm30 at *
  replace hDf := hDf.same sm30
  replace hDi := Dice.same hDi (show Same _ Gm30 by walk_at "ss")
  refine ⟨D, am30, _, rfl, hDi, fun e => nm30 (e ▸ List.mem_cons_self), em30, by simp, by simp, fun far H4 hv kq4 dm30 => ?_⟩
  obtain ⟨df, mf, pF⟩ : ∃ d ∈ farD, Pl H4 [D] d far := by
    simp only [List.mem_cons, List.not_mem_nil, or_false] at hv
    rcases hv with rfl | rfl | rfl | rfl
    · exact ⟨.int (0), List.mem_of_getElem? (i := 0) rfl, Pl.mono (kq4.kn) _ _ (by rw [Pl])⟩
    · exact ⟨.str "None", List.mem_of_getElem? (i := 1) rfl, Pl.mono (kq4.kn) _ _ (by rw [Pl])⟩
    · exact ⟨(.tuple [.int (0), .int (2)]), List.mem_of_getElem? (i := 2) rfl, Pl.mono (kq4.kn) _ _ (pm28.same (by walk_at "ss"))⟩
    · exact ⟨(.tuple []), List.mem_of_getElem? (i := 3) rfl, Pl.mono (kq4.kn) _ _ (pm29.same (by walk_at "ss"))⟩
  replace hDf := hDf.keep kq4 dm30
  replace hDi := dm30
  walk_at "z"
  refine ⟨D, 9, rfl, hDi, by decide, by decide, fun r H5 r0 r9 k5 d5 => ?_⟩
  walk_at "z"
  have hDi := d5
  replace hDf := hDf.keep k5 d5
  refine ⟨by decide, fun al1 hl1 => ?_⟩
  have nl1 : al1 ∉ [D] := hDf.new hl1
  have sl1 := same_upd (o := .tup [V.int (r - 4), V.int 1]) hl1
  have el1 : upd H5 al1 (.tup [V.int (r - 4), V.int 1]) al1 = some (.tup [V.int (r - 4), V.int 1]) := upd_same
  generalize upd H5 al1 (.tup [V.int (r - 4), V.int 1]) = Gl1 at *
  replace hDf := hDf.same sl1
  walk_at "z"
  refine ⟨by decide, fun al2 hl2 => ?_⟩
  have nl2 : al2 ∉ [D] := hDf.new hl2
  have sl2 := same_upd (o := .tup [V.int (-1), V.int 2]) hl2
  have el2 : upd Gl1 al2 (.tup [V.int (-1), V.int 2]) al2 = some (.tup [V.int (-1), V.int 2]) := upd_same
  generalize upd Gl1 al2 (.tup [V.int (-1), V.int 2]) = Gl2 at *
  replace hDf := hDf.same sl2
  have nlo : NumR Gl2 0 (.ref al1) (r - 4) 1 := .inl ⟨rfl, ⟨al1, rfl, sl2 _ _ el1⟩, by decide, Nat.gcd_one_right _⟩
  have nmi : NumR Gl2 0 (.ref al2) (-1) 2 := .inl ⟨rfl, ⟨al2, rfl, el2⟩, by decide, by decide⟩
  have sz9 : ∀ z : Int, z.natAbs < 16 → Sz 3000 z := fun z hz => Nat.lt_of_lt_of_le (show z.natAbs < 2 ^ 4 by omega) (Nat.pow_le_pow_right (by decide) (by decide))
  refine ⟨0, .ref al1, .ref al2, r - 4, 1, -1, 2, rfl, by decide, nlo, nmi, sz9 _ (by omega), sz9 _ (by decide), sz9 _ (by decide), sz9 _ (by decide), fun w x' y' H6 s6 nw ex _ => ?_⟩
  have ex := ex rfl
  replace hDf := hDf.same s6
  have hNW : HiOk (r - 4) x' y' ∧ Pl H6 [D] (.tuple [.int x', .int y']) w := by
    rcases nw with ⟨_, ⟨p, rfl, hp⟩, y1, hg⟩ | ⟨h0, _⟩
    · exact ⟨hi_ok r0 r9 y1 hg ex, plT2 hDf hp (plC (by rw [Pl]) (plC (by rw [Pl]) plN))⟩
    · exact absurd rfl h0
  have hLW : HiOk (r - 4) (r - 4) 1 := lo_ok r0 r9
  have el6 : H6 al1 = some (.tup [V.int (r - 4), V.int 1]) := s6 _ _ (sl2 _ _ el1)
  have pLo : Pl H6 [D] (.tuple [.int (r - 4), .int 1]) (.ref al1) := plT2 hDf el6 (plC (by rw [Pl]) (plC (by rw [Pl]) plN))
  replace hDi := (hDi.same (sl1.trans sl2)).same s6
  refine ⟨by decide, fun ah hh1 => ?_⟩
  have nh := hDf.new hh1
  have sh := same_upd (o := .lst [V.ref al1, w]) hh1
  have eh : upd H6 ah (.lst [V.ref al1, w]) ah = some (.lst [V.ref al1, w]) := upd_same
  generalize upd H6 ah (.lst [V.ref al1, w]) = H7 at *
  refine ⟨D, ah, _, rfl, hDi.same sh, fun e => nh (e ▸ List.mem_cons_self), eh, by simp, by simp, fun hi H8 hv k8 d8 => ?_⟩
  have hPi : ∃ x y, HiOk (r - 4) x y ∧ Pl H7 [D] (.tuple [.int x, .int y]) hi := by
    simp only [List.mem_cons, List.not_mem_nil, or_false] at hv
    rcases hv with rfl | rfl
    · exact ⟨_, _, hLW, pLo.same sh⟩
    · exact ⟨_, _, hNW.1, hNW.2.same sh⟩
  obtain ⟨x, y, hxy, pH⟩ := hPi
  have kB1 : Keep D H H1 := ((Keep.refl D H).same (by walk_at "ss")).trans k1
  have kB2 : Keep D H1 H2 := ((Keep.refl D H1).same (by walk_at "ss")).trans k2
  have kB3 : Keep D H2 H3 := ((Keep.refl D H2).same (by walk_at "ss")).trans k3
  have kB4 : Keep D H3 H4 := ((Keep.refl D H3).same (by walk_at "ss")).trans kq4
  have kB6 : Keep D H5 H6 := (Keep.refl D H5).same (by walk_at "ss")
  have kB8 : Keep D H6 H8 := ((Keep.refl D H6).same sh).trans k8
  have k58 := kB6.trans kB8
  have k38 := (kB4.trans k5).trans k58
  have k28 := kB3.trans k38
  have k18 := kB2.trans k28
  have k08 := kB1.trans k18
  have tb : LamX.Tabs (Ts K) H8 := by
    obtain ⟨_, _, _, hz⟩ := hD
    exact Tabs.keep hT hz k08
  walk_at "z"
  refine k4 _ bad nn en far (.ref al1) hi db dn de (r - 4) x y H8 ⟨mb, mn, me, hxy⟩ ⟨k08.kn, tb, d8, by simp, fun q hq => ?_⟩
  simp only [List.mem_cons, List.not_mem_nil, or_false] at hq
  rcases hq with rfl | rfl | rfl | rfl | rfl | rfl
  · exact ⟨Pl.mono k08.kn _ _ pT, trivial⟩
  · exact ⟨Pl.mono k18.kn _ _ pB, trivial⟩
  · exact ⟨Pl.mono k28.kn _ _ pN, trivial⟩
  · exact ⟨Pl.mono k38.kn _ _ pE, trivial⟩
  · exact ⟨Pl.mono kB8.kn _ _ pLo, trivial⟩
  · exact ⟨Pl.mono k8.kn _ _ pH, trivial⟩
theorem ok__law_ends_right {P : Program} {w : World} {K : PySem.W.Frag} {mg : Str → Option Value} {base : Heap} (T : Tx K mg) (TB : ∀ p ∈ tfs, LamX.TabB base mg (He.cT K p).1 (He.cT K p).2) : OkkG P w K mg base 13 "_law_ends_right" ["dice", "two"] (sp__law_ends_right K) := by
  obtain ⟨fd_roots_answer, F_roots_answer, b_roots_answer, g_roots_answer, k_roots_answer⟩ := ok_roots_answer (P := P) (w := w) (base := base) T
  obtain ⟨fd_alone_answer, F_alone_answer, b_alone_answer, g_alone_answer, k_alone_answer⟩ := ok_alone_answer (P := P) (w := w) (base := base) T
  obtain ⟨fd_sign_answer, F_sign_answer, b_sign_answer, g_sign_answer, k_sign_answer⟩ := ok_sign_answer (P := P) (w := w) (base := base) T
  obtain ⟨fd_root_order_answer, F_root_order_answer, b_root_order_answer, g_root_order_answer, k_root_order_answer⟩ := ok_root_order_answer (P := P) (w := w) (base := base) T
  obtain ⟨fd__law_roll, F__law_roll, b__law_roll, g__law_roll, k__law_roll⟩ := ok__law_roll (P := P) (w := w) (base := base) T
  obtain ⟨fd__law_pick, F__law_pick, b__law_pick, g__law_pick, k__law_pick⟩ := ok__law_pick (P := P) (w := w) (base := base) T
  obtain ⟨fd__law_plus, F__law_plus, b__law_plus, g__law_plus, k__law_plus⟩ := ok__law_plus (P := P) (w := w) (base := base) T
  have hf_repr := T.n_repr
  have dis := T.dis
  obtain ⟨fd__law_word, F__law_word⟩ := T.f__law_word
  have gg__law_word := T.g__law_word
  have hb__law_word := F__law_word.bindsN (ps := ["call"]) (fun _ _ _ _ _ _ us hl => match us, hl with | [_], _ => rfl)
  obtain ⟨fd, F⟩ := T.f__law_ends_right
  refine ⟨fd, okG F sc__law_ends_right (fun vs H Q E h => len__law_ends_right h) (fun c A outer s H vs Q E hc hgd hr h => ⟨t__law_ends_right K, PSs.nox ?_, pure__law_ends_right K vs H Q E h⟩), F.bindsN (fun _ _ _ _ _ _ us hl => match us, hl with | [_, _], _ => rfl), T.g__law_ends_right, F.kp⟩
  have tb := TB ("_law_ends_right", none) (by simp [tfs])
  have ec : (He.cT K ("_law_ends_right", none)).1 = c := codeOf_fd F hc
  rw [ec] at tb
  have hu80 := hu80_of hr
  have hu64 := hu64_of hr
  exact (pss_cons (ps_set (i := 2) sc__law_ends_right.nd rfl (by first | exact Or.inl rfl | exact Or.inr rfl) (pe_lst (pa_cons pe_non (pa_cons (pe_lst pa_nil) (pa_cons pe_int (pa_cons pe_str (pa_cons (pe_tup (pa_cons (pe_tup (pa_cons pe_int (pa_cons pe_int pa_nil))) (pa_cons (pe_tup (pa_cons pe_int (pa_cons pe_int pa_nil))) pa_nil))) (pa_cons (pe_tup (pa_cons (pe_tup (pa_cons pe_int (pa_cons pe_int pa_nil))) pa_nil)) (pa_cons (pe_tup (pa_cons pe_int (pa_cons pe_int pa_nil))) (pa_cons (pe_tup (pa_cons (pe_tup (pa_cons pe_int (pa_cons pe_int pa_nil))) (pa_cons pe_bl pa_nil))) (pa_cons (pe_op op_repT (pe_tup (pa_cons (pe_tup (pa_cons pe_int (pa_cons pe_int pa_nil))) pa_nil)) pe_int) (pa_cons pe_dnewK (pa_cons (pe_tup (pa_cons (pe_tup (pa_cons pe_int (pa_cons pe_int pa_nil))) pa_nil)) pa_nil)))))))))))))
      (pss_cons (ps_asg (pe_tup (pa_cons (pe_call F__law_pick (hr.mono (by decide)) rfl g__law_pick k__law_pick b__law_pick .nil pass0 (pa_cons (pv 0) (pa_cons (pv 2) pa_nil))) (pa_cons (pe_call F__law_pick (hr.mono (by decide)) rfl g__law_pick k__law_pick b__law_pick .nil pass0 (pa_cons (pv 0) (pa_cons (pe_lst (pa_cons (pe_tup pa_nil) (pa_cons pe_non (pa_cons pe_str pa_nil)))) pa_nil))) pa_nil))) (pg_tup rfl (pgs_cons (pg_name (i := 3) sc__law_ends_right.nd rfl (by first | exact Or.inl rfl | exact Or.inr rfl)) (pgs_cons (pg_name (i := 4) sc__law_ends_right.nd rfl (by first | exact Or.inl rfl | exact Or.inr rfl)) pgs_nil))))
      (pss_cons (ps_set (i := 5) sc__law_ends_right.nd rfl (by first | exact Or.inl rfl | exact Or.inr rfl) (pe_call F__law_pick (hr.mono (by decide)) rfl g__law_pick k__law_pick b__law_pick .nil pass0 (pa_cons (pv 0) (pa_cons (pe_lst (pa_cons pe_int (pa_cons pe_bl (pa_cons pe_str (pa_cons (pe_tup (pa_cons pe_int (pa_cons pe_int pa_nil))) (pa_cons (pe_tup (pa_cons pe_int (pa_cons pe_int pa_nil))) (pa_cons (pe_tup (pa_cons pe_int (pa_cons (pe_un un_neg pe_int) pa_nil))) (pa_cons (pe_lst (pa_cons pe_int (pa_cons pe_int pa_nil))) (pa_cons (pe_tup (pa_cons pe_int pa_nil)) (pa_cons pe_dnewK (pa_cons (pe_tup (pa_cons (pe_op op_pow pe_int pe_int) (pa_cons pe_int pa_nil))) pa_nil))))))))))) pa_nil))))
      (pss_cons (ps_set (i := 6) sc__law_ends_right.nd rfl (by first | exact Or.inl rfl | exact Or.inr rfl) (pe_call F__law_pick (hr.mono (by decide)) rfl g__law_pick k__law_pick b__law_pick .nil pass0 (pa_cons (pv 0) (pa_cons (pe_lst (pa_cons pe_int (pa_cons pe_str (pa_cons (pe_tup (pa_cons pe_int (pa_cons pe_int pa_nil))) (pa_cons (pe_tup pa_nil) pa_nil))))) pa_nil))))
      (pss_cons (ps_set (i := 7) sc__law_ends_right.nd rfl (by first | exact Or.inl rfl | exact Or.inr rfl) (pe_tup (pa_cons (pe_op op_sub (pe_call F__law_roll (hr.mono (by decide)) rfl g__law_roll k__law_roll b__law_roll .nil pass0 (pa_cons (pv 0) (pa_cons pe_int pa_nil))) pe_int) (pa_cons pe_int pa_nil))))
      (pss_cons (ps_set (i := 8) sc__law_ends_right.nd rfl (by first | exact Or.inl rfl | exact Or.inr rfl) (pe_call F__law_pick (hr.mono (by decide)) rfl g__law_pick k__law_pick b__law_pick .nil pass0 (pa_cons (pv 0) (pa_cons (pe_lst (pa_cons (pv 7) (pa_cons (pe_call F__law_plus (hr.mono (by decide)) rfl g__law_plus k__law_plus b__law_plus .nil pass0 (pa_cons pe_int (pa_cons (pv 7) (pa_cons (pe_tup (pa_cons (pe_un un_neg pe_int) (pa_cons pe_int pa_nil))) pa_nil)))) pa_nil))) pa_nil))))
      (pss_cons (ps_par (i := 9) (j := 10) rfl sc__law_ends_right.nd rfl rfl (by decide) rfl rfl (pa_cons (pe_lst pa_nil) (pa_cons (pe_lst pa_nil) pa_nil)) (by rfl))
      (pss_cons (ps_for PassesOwn.never rfl (pi_tup (pe_tup (pa_cons (pe_glob (v := .ref (He.ga K "roots_answer")) rfl g_roots_answer rfl) (pa_cons (pe_glob (v := .ref (He.ga K "alone_answer")) rfl g_alone_answer rfl) pa_nil)))) (pg_name (i := 11) sc__law_ends_right.nd rfl (by first | exact Or.inl rfl | exact Or.inr rfl)) (pss_cons (ps_expr (pe_bm PySem.F.plainAttrs_list PySem.F.slot_list_append PySem.F.type_list_append mt_append (pv 9) (pa_cons (pe_met (k := 10) F__law_word gg__law_word hb__law_word sc__law_word rfl (.inl rfl) (hr.mono (by decide)) (fun cdv hr2 => met_gives T hgd hr2) rfl tb rfl (.head _) (hu__law_ends_right dis) (LamX.lamS_by (sc := defScope s__law_ends_right) (by decide +kernel)) rfl (fun _ _ _ _ _ => rfl) (fun _ _ _ _ E _ _ hr => (pe_callS (i := 11) (S := (fun f sp => (f = He.ga K "roots_answer" ∧ sp = sp_roots_answer K) ∨ (f = He.ga K "alone_answer" ∧ sp = sp_alone_answer K))) (fun f sp h => by
    rcases h with ⟨rfl, rfl⟩ | ⟨rfl, rfl⟩
    · exact ⟨_, _, _, hr.mono (by decide), F_roots_answer, k_roots_answer, b_roots_answer⟩
    · exact ⟨_, _, _, hr.mono (by decide), F_alone_answer, k_alone_answer, b_alone_answer⟩) rfl (by first | exact Or.inl rfl | exact Or.inr (Or.inl rfl) | exact Or.inr (Or.inr rfl)) (passes_call (takes_of rfl rfl rfl rfl) (fun _ _ _ _ h => h)) (pa_cons (pv 3) (pa_cons (pv 5) (pa_cons (pv 6) pa_nil)))))) pa_nil)))
      (pss_cons (ps_expr (pe_bm PySem.F.plainAttrs_list PySem.F.slot_list_append PySem.F.type_list_append mt_append (pv 9) (pa_cons (pe_met (k := 10) F__law_word gg__law_word hb__law_word sc__law_word rfl (.inl rfl) (hr.mono (by decide)) (fun cdv hr2 => met_gives T hgd hr2) rfl tb rfl (.head _) (hu__law_ends_right dis) (LamX.lamS_by (sc := defScope s__law_ends_right) (by decide +kernel)) rfl (fun _ _ _ _ _ => rfl) (fun _ _ _ _ E _ _ hr => (pe_callS (i := 11) (S := (fun f sp => (f = He.ga K "roots_answer" ∧ sp = sp_roots_answer K) ∨ (f = He.ga K "alone_answer" ∧ sp = sp_alone_answer K))) (fun f sp h => by
    rcases h with ⟨rfl, rfl⟩ | ⟨rfl, rfl⟩
    · exact ⟨_, _, _, hr.mono (by decide), F_roots_answer, k_roots_answer, b_roots_answer⟩
    · exact ⟨_, _, _, hr.mono (by decide), F_alone_answer, k_alone_answer, b_alone_answer⟩) rfl (by first | exact Or.inl rfl | exact Or.inr (Or.inl rfl) | exact Or.inr (Or.inr rfl)) (passes_call (takes_of rfl rfl rfl rfl) (fun _ _ _ _ h => h)) (pa_cons (pv 4) (pa_cons (pv 5) (pa_cons (pv 6) pa_nil)))))) pa_nil)))
      (pss_cons (ps_expr (pe_bm PySem.F.plainAttrs_list PySem.F.slot_list_append PySem.F.type_list_append mt_append (pv 9) (pa_cons (pe_met (k := 10) F__law_word gg__law_word hb__law_word sc__law_word rfl (.inl rfl) (hr.mono (by decide)) (fun cdv hr2 => met_gives T hgd hr2) rfl tb rfl (.head _) (hu__law_ends_right dis) (LamX.lamS_by (sc := defScope s__law_ends_right) (by decide +kernel)) rfl (fun _ _ _ _ _ => rfl) (fun _ _ _ _ E _ _ hr => (pe_callS (i := 11) (S := (fun f sp => (f = He.ga K "roots_answer" ∧ sp = sp_roots_answer K) ∨ (f = He.ga K "alone_answer" ∧ sp = sp_alone_answer K))) (fun f sp h => by
    rcases h with ⟨rfl, rfl⟩ | ⟨rfl, rfl⟩
    · exact ⟨_, _, _, hr.mono (by decide), F_roots_answer, k_roots_answer, b_roots_answer⟩
    · exact ⟨_, _, _, hr.mono (by decide), F_alone_answer, k_alone_answer, b_alone_answer⟩) rfl (by first | exact Or.inl rfl | exact Or.inr (Or.inl rfl) | exact Or.inr (Or.inr rfl)) (passes_call (takes_of rfl rfl rfl rfl) (fun _ _ _ _ h => h)) (pa_cons (pv 1) (pa_cons (pv 5) (pa_cons (pv 6) pa_nil)))))) pa_nil)))
      (pss_cons (ps_expr (pe_bm PySem.F.plainAttrs_list PySem.F.slot_list_append PySem.F.type_list_append mt_append (pv 9) (pa_cons (pe_met (k := 10) F__law_word gg__law_word hb__law_word sc__law_word rfl (.inl rfl) (hr.mono (by decide)) (fun cdv hr2 => met_gives T hgd hr2) rfl tb rfl (.head _) (hu__law_ends_right dis) (LamX.lamS_by (sc := defScope s__law_ends_right) (by decide +kernel)) rfl (fun _ _ _ _ _ => rfl) (fun _ _ _ _ E _ _ hr => (pe_callS (i := 11) (S := (fun f sp => (f = He.ga K "roots_answer" ∧ sp = sp_roots_answer K) ∨ (f = He.ga K "alone_answer" ∧ sp = sp_alone_answer K))) (fun f sp h => by
    rcases h with ⟨rfl, rfl⟩ | ⟨rfl, rfl⟩
    · exact ⟨_, _, _, hr.mono (by decide), F_roots_answer, k_roots_answer, b_roots_answer⟩
    · exact ⟨_, _, _, hr.mono (by decide), F_alone_answer, k_alone_answer, b_alone_answer⟩) rfl (by first | exact Or.inl rfl | exact Or.inr (Or.inl rfl) | exact Or.inr (Or.inr rfl)) (passes_call (takes_of rfl rfl rfl rfl) (fun _ _ _ _ h => h)) (pa_cons (pv 1) (pa_cons pe_non (pa_cons (pv 5) pa_nil)))))) pa_nil)))
      (pss_cons (ps_expr (pe_bm PySem.F.plainAttrs_list PySem.F.slot_list_append PySem.F.type_list_append mt_append (pv 9) (pa_cons (pe_met (k := 10) F__law_word gg__law_word hb__law_word sc__law_word rfl (.inl rfl) (hr.mono (by decide)) (fun cdv hr2 => met_gives T hgd hr2) rfl tb rfl (.head _) (hu__law_ends_right dis) (LamX.lamS_by (sc := defScope s__law_ends_right) (by decide +kernel)) rfl (fun _ _ _ _ _ => rfl) (fun _ _ _ _ E _ _ hr => (pe_callS (i := 11) (S := (fun f sp => (f = He.ga K "roots_answer" ∧ sp = sp_roots_answer K) ∨ (f = He.ga K "alone_answer" ∧ sp = sp_alone_answer K))) (fun f sp h => by
    rcases h with ⟨rfl, rfl⟩ | ⟨rfl, rfl⟩
    · exact ⟨_, _, _, hr.mono (by decide), F_roots_answer, k_roots_answer, b_roots_answer⟩
    · exact ⟨_, _, _, hr.mono (by decide), F_alone_answer, k_alone_answer, b_alone_answer⟩) rfl (by first | exact Or.inl rfl | exact Or.inr (Or.inl rfl) | exact Or.inr (Or.inr rfl)) (passes_call (takes_of rfl rfl rfl rfl) (fun _ _ _ _ h => h)) (pa_cons (pv 1) (pa_cons (pv 7) (pa_cons (pv 8) pa_nil)))))) pa_nil)))
      (pss_one (ps_expr (pe_bm PySem.F.plainAttrs_list PySem.F.slot_list_extend PySem.F.type_list_extend mt_extend (pv 10) (pa_cons (pe_lst (pa_cons pe_str (pa_cons pe_str (pa_cons (pe_op op_add_str pe_str (pe_callB (call_repV2 (K := K) rfl hgd hu80) (by rfl) hf_repr (by decide +kernel) (pa_cons (pv 5) pa_nil))) (pa_cons (pe_op op_add_str pe_str (pe_callB (call_repV2 (K := K) rfl hgd hu80) (by rfl) hf_repr (by decide +kernel) (pa_cons (pv 5) pa_nil))) (pa_cons pe_str pa_nil)))))) pa_nil))))))))))
      (pss_cons (ps_expr (pe_bm PySem.F.plainAttrs_list PySem.F.slot_list_append PySem.F.type_list_append mt_append (pv 9) (pa_cons (pe_met (k := 10) F__law_word gg__law_word hb__law_word sc__law_word rfl (.inl rfl) (hr.mono (by decide)) (fun cdv hr2 => met_gives T hgd hr2) rfl tb rfl (.head _) (hu__law_ends_right dis) (LamX.lamS_by (sc := defScope s__law_ends_right) (by decide +kernel)) rfl (fun _ _ _ _ _ => rfl) (fun _ _ _ _ E _ _ hr => (pe_call F_sign_answer (hr.mono (by decide)) rfl g_sign_answer k_sign_answer b_sign_answer .nil (passes_call (takes_of rfl rfl rfl rfl) (fun _ _ _ _ h => h)) (pa_cons (pv 4) (pa_cons (pv 3) (pa_cons (pv 5) (pa_cons (pv 6) pa_nil))))))) pa_nil)))
      (pss_cons (ps_expr (pe_bm PySem.F.plainAttrs_list PySem.F.slot_list_append PySem.F.type_list_append mt_append (pv 9) (pa_cons (pe_met (k := 10) F__law_word gg__law_word hb__law_word sc__law_word rfl (.inl rfl) (hr.mono (by decide)) (fun cdv hr2 => met_gives T hgd hr2) rfl tb rfl (.head _) (hu__law_ends_right dis) (LamX.lamS_by (sc := defScope s__law_ends_right) (by decide +kernel)) rfl (fun _ _ _ _ _ => rfl) (fun _ _ _ _ E _ _ hr => (pe_call F_sign_answer (hr.mono (by decide)) rfl g_sign_answer k_sign_answer b_sign_answer .nil (passes_call (takes_of rfl rfl rfl rfl) (fun _ _ _ _ h => h)) (pa_cons (pv 1) (pa_cons (pv 3) (pa_cons (pv 5) (pa_cons (pv 6) pa_nil))))))) pa_nil)))
      (pss_cons (ps_expr (pe_bm PySem.F.plainAttrs_list PySem.F.slot_list_append PySem.F.type_list_append mt_append (pv 9) (pa_cons (pe_met (k := 10) F__law_word gg__law_word hb__law_word sc__law_word rfl (.inl rfl) (hr.mono (by decide)) (fun cdv hr2 => met_gives T hgd hr2) rfl tb rfl (.head _) (hu__law_ends_right dis) (LamX.lamS_by (sc := defScope s__law_ends_right) (by decide +kernel)) rfl (fun _ _ _ _ _ => rfl) (fun _ _ _ _ E _ _ hr => (pe_call F_sign_answer (hr.mono (by decide)) rfl g_sign_answer k_sign_answer b_sign_answer .nil (passes_call (takes_of rfl rfl rfl rfl) (fun _ _ _ _ h => h)) (pa_cons (pv 1) (pa_cons (pe_tup pa_nil) (pa_cons pe_non (pa_cons (pv 5) pa_nil))))))) pa_nil)))
      (pss_cons (ps_expr (pe_bm PySem.F.plainAttrs_list PySem.F.slot_list_append PySem.F.type_list_append mt_append (pv 9) (pa_cons (pe_met (k := 10) F__law_word gg__law_word hb__law_word sc__law_word rfl (.inl rfl) (hr.mono (by decide)) (fun cdv hr2 => met_gives T hgd hr2) rfl tb rfl (.head _) (hu__law_ends_right dis) (LamX.lamS_by (sc := defScope s__law_ends_right) (by decide +kernel)) rfl (fun _ _ _ _ _ => rfl) (fun _ _ _ _ E _ _ hr => (pe_call F_sign_answer (hr.mono (by decide)) rfl g_sign_answer k_sign_answer b_sign_answer .nil (passes_call (takes_of rfl rfl rfl rfl) (fun _ _ _ _ h => h)) (pa_cons (pv 1) (pa_cons (pv 1) (pa_cons (pv 7) (pa_cons (pv 8) pa_nil))))))) pa_nil)))
      (pss_cons (ps_expr (pe_bm PySem.F.plainAttrs_list PySem.F.slot_list_extend PySem.F.type_list_extend mt_extend (pv 10) (pa_cons (pe_lst (pa_cons pe_str (pa_cons pe_str (pa_cons (pe_op op_add_str pe_str (pe_callB (call_repV2 (K := K) rfl hgd hu80) (by rfl) hf_repr (by decide +kernel) (pa_cons (pv 5) pa_nil))) (pa_cons pe_str pa_nil))))) pa_nil)))
      (pss_cons (ps_expr (pe_bm PySem.F.plainAttrs_list PySem.F.slot_list_append PySem.F.type_list_append mt_append (pv 9) (pa_cons (pe_met (k := 10) F__law_word gg__law_word hb__law_word sc__law_word rfl (.inl rfl) (hr.mono (by decide)) (fun cdv hr2 => met_gives T hgd hr2) rfl tb rfl (.head _) (hu__law_ends_right dis) (LamX.lamS_by (sc := defScope s__law_ends_right) (by decide +kernel)) rfl (fun _ _ _ _ _ => rfl) (fun _ _ _ _ E _ _ hr => (pe_call F_root_order_answer (hr.mono (by decide)) rfl g_root_order_answer k_root_order_answer b_root_order_answer .nil (passes_call (takes_of rfl rfl rfl rfl) (fun _ _ _ _ h => h)) (pa_cons (pv 1) (pa_cons (pv 5) (pa_cons (pv 6) (pa_cons (pv 3) (pa_cons (pv 6) (pa_cons (pv 6) pa_nil))))))))) pa_nil)))
      (pss_cons (ps_expr (pe_bm PySem.F.plainAttrs_list PySem.F.slot_list_append PySem.F.type_list_append mt_append (pv 9) (pa_cons (pe_met (k := 10) F__law_word gg__law_word hb__law_word sc__law_word rfl (.inl rfl) (hr.mono (by decide)) (fun cdv hr2 => met_gives T hgd hr2) rfl tb rfl (.head _) (hu__law_ends_right dis) (LamX.lamS_by (sc := defScope s__law_ends_right) (by decide +kernel)) rfl (fun _ _ _ _ _ => rfl) (fun _ _ _ _ E _ _ hr => (pe_call F_root_order_answer (hr.mono (by decide)) rfl g_root_order_answer k_root_order_answer b_root_order_answer .nil (passes_call (takes_of rfl rfl rfl rfl) (fun _ _ _ _ h => h)) (pa_cons (pv 1) (pa_cons pe_non (pa_cons (pe_tup (pa_cons pe_int (pa_cons pe_int pa_nil))) (pa_cons (pv 4) (pa_cons (pv 6) (pa_cons (pv 6) pa_nil))))))))) pa_nil)))
      (pss_cons (ps_expr (pe_bm PySem.F.plainAttrs_list PySem.F.slot_list_append PySem.F.type_list_append mt_append (pv 9) (pa_cons (pe_met (k := 10) F__law_word gg__law_word hb__law_word sc__law_word rfl (.inl rfl) (hr.mono (by decide)) (fun cdv hr2 => met_gives T hgd hr2) rfl tb rfl (.head _) (hu__law_ends_right dis) (LamX.lamS_by (sc := defScope s__law_ends_right) (by decide +kernel)) rfl (fun _ _ _ _ _ => rfl) (fun _ _ _ _ E _ _ hr => (pe_call F_root_order_answer (hr.mono (by decide)) rfl g_root_order_answer k_root_order_answer b_root_order_answer .nil (passes_call (takes_of rfl rfl rfl rfl) (fun _ _ _ _ h => h)) (pa_cons (pv 1) (pa_cons (pv 7) (pa_cons (pv 8) (pa_cons (pv 1) (pa_cons (pv 5) (pa_cons (pv 6) pa_nil))))))))) pa_nil)))
      (pss_cons (ps_expr (pe_bm PySem.F.plainAttrs_list PySem.F.slot_list_append PySem.F.type_list_append mt_append (pv 9) (pa_cons (pe_met (k := 10) F__law_word gg__law_word hb__law_word sc__law_word rfl (.inl rfl) (hr.mono (by decide)) (fun cdv hr2 => met_gives T hgd hr2) rfl tb rfl (.head _) (hu__law_ends_right dis) (LamX.lamS_by (sc := defScope s__law_ends_right) (by decide +kernel)) rfl (fun _ _ _ _ _ => rfl) (fun _ _ _ _ E _ _ hr => (pe_call F_root_order_answer (hr.mono (by decide)) rfl g_root_order_answer k_root_order_answer b_root_order_answer .nil (passes_call (takes_of rfl rfl rfl rfl) (fun _ _ _ _ h => h)) (pa_cons (pv 1) (pa_cons (pv 7) (pa_cons (pv 8) (pa_cons (pv 1) (pa_cons pe_non (pa_cons pe_non pa_nil))))))))) pa_nil)))
      (pss_cons (ps_expr (pe_bm PySem.F.plainAttrs_list PySem.F.slot_list_append PySem.F.type_list_append mt_append (pv 9) (pa_cons (pe_met (k := 10) F__law_word gg__law_word hb__law_word sc__law_word rfl (.inl rfl) (hr.mono (by decide)) (fun cdv hr2 => met_gives T hgd hr2) rfl tb rfl (.head _) (hu__law_ends_right dis) (LamX.lamS_by (sc := defScope s__law_ends_right) (by decide +kernel)) rfl (fun _ _ _ _ _ => rfl) (fun _ _ _ _ E _ _ hr => (pe_call F_root_order_answer (hr.mono (by decide)) rfl g_root_order_answer k_root_order_answer b_root_order_answer .nil (passes_call (takes_of rfl rfl rfl rfl) (fun _ _ _ _ h => h)) (pa_cons (pv 1) (pa_cons pe_non (pa_cons (pe_tup (pa_cons pe_int (pa_cons pe_int pa_nil))) (pa_cons (pv 1) (pa_cons (pv 7) (pa_cons (pv 8) pa_nil))))))))) pa_nil)))
      (pss_cons (ps_expr (pe_bm PySem.F.plainAttrs_list PySem.F.slot_list_extend PySem.F.type_list_extend mt_extend (pv 10) (pa_cons (pe_lst (pa_cons (pe_op op_add_str pe_str (pe_callB (call_repV2 (K := K) rfl hgd hu80) (by rfl) hf_repr (by decide +kernel) (pa_cons (pv 5) pa_nil))) (pa_cons pe_str (pa_cons (pe_op op_add_str pe_str (pe_callB (call_repV2 (K := K) rfl hgd hu80) (by rfl) hf_repr (by decide +kernel) (pa_cons (pv 5) pa_nil))) (pa_cons pe_str (pa_cons pe_str pa_nil)))))) pa_nil)))
      (pss_one (ps_ret (pe_cmpR (op_eqD hu64) (pv 9) (pe_lc (own := [("word", 12)]) (g := (gName 12)) (tt := tYes) rfl sc__law_ends_right.nd (pi_list (pv 10)) (blkOk_by (own := [("word", 12)]) (N := ["dice", "two", "some", "bad", "none", "end", "far", "low", "high", "told", "due", "call", "word"]) (sc := defScope s__law_ends_right) (by decide +kernel)) (fun _ _ _ _ _ => (pg_name (i := 12) sc__law_ends_right.nd rfl (by first | exact Or.inl rfl | exact Or.inr rfl))) (fun _ _ _ _ _ => pts_nil) (fun _ _ _ _ _ => (pe_tup (pa_cons pe_str (pa_cons (pv 12) pa_nil))))) (nomark _)))))))))))))))))))))))
/-! ### _law_rest_right -/
theorem sc__law_rest_right : FnScope ["dice", "two", "none", "told", "due", "word"] ["dice", "two"] (defScope s__law_rest_right) := ⟨rfl, rfl, rfl, by decide +kernel, rfl, by decide +kernel, by decide +kernel⟩
def sp__law_rest_right (K : PySem.W.Frag) : Sp := fun vs H Q _ => ∃ (D : Addr) (two : V), vs = [.ref D, two] ∧ Dice H D ∧ Pl H [D] twoD two ∧ LamX.Tabs (Ts K) H ∧ ∀ H', KN [D] H H' → Dice H' D → LamX.Tabs (Ts K) H' → Q (.bl true) H'
theorem len__law_rest_right {K : PySem.W.Frag} {vs : List V} {H : Hp} {Q : VK} {E : XK} (h : sp__law_rest_right K vs H Q E) : vs.length = ["dice", "two"].length := by
  obtain ⟨_, _, rfl, _⟩ := h
  rfl
def t__law_rest_right (K : PySem.W.Frag) : TS := (tSeq (tAsg (tCall (sp__law_pick K) [] E0 (tCons (tVar 0) (tCons (tLst (tCons (tTup tNil) (tCons (tC .non) (tCons (tTup (tCons (tTup (tCons (tC (.int 1)) (tCons (tC (.int 1)) tNil))) (tCons (tTup (tCons (tC (.int 0)) (tCons (tC (.int 1)) tNil))) tNil))) (tCons (tLst tNil) (tCons (tC (.str "poly")) (tCons (tOp (rRepT K) (tTup (tCons (tTup (tCons (tC (.int 1)) (tCons (tC (.int 1)) tNil))) tNil)) (tC (.int 14))) tNil))))))) tNil))) (gName 2))
  (tSeq (tAsg (tLst (tCons (LamX.tLam (Ts K) (TMet K) (fun E => (tCall (sp_root_stretches K) [] E (tCons (tVar 2) tNil)))) tNil)) (gName 3))
  (tSeq (tDrop (tBM K "list" rAppend (tVar 3) (tCons (LamX.tLam (Ts K) (TMet K) (fun E => (tCall (sp_alone_answer K) [] E (tCons (tVar 1) (tCons (tC .non) (tCons (tC .non) tNil)))))) tNil)))
  (tSeq (tDrop (tBM K "list" rAppend (tVar 3) (tCons (LamX.tLam (Ts K) (TMet K) (fun E => (tCall (sp_alone_answer K) [] E (tCons (tVar 1) (tCons (tTup (tCons (tC (.int 2)) (tCons (tC (.int 1)) tNil))) (tCons (tC .non) tNil)))))) tNil)))
  (tSeq (tDrop (tBM K "list" rAppend (tVar 3) (tCons (LamX.tLam (Ts K) (TMet K) (fun E => (tCall (sp_sign_answer K) [] E (tCons (tVar 1) (tCons (tVar 1) (tCons (tTup (tCons (tC (.int 2)) (tCons (tC (.int 1)) tNil))) (tCons (tC .non) tNil))))))) tNil)))
  (tSeq (tDrop (tBM K "list" rAppend (tVar 3) (tCons (LamX.tLam (Ts K) (TMet K) (fun E => (tCall (sp_root_order_answer K) [] E (tCons (tVar 1) (tCons (tC .non) (tCons (tC .non) (tCons (tTup (tCons (tTup (tCons (tC (.int 1)) (tCons (tC (.int 1)) tNil))) tNil)) (tCons (tC .non) (tCons (tC .non) tNil))))))))) tNil)))
  (tSeq (tDrop (tBM K "list" rAppend (tVar 3) (tCons (LamX.tLam (Ts K) (TMet K) (fun E => (tCall (sp_root_order_answer K) [] E (tCons (tVar 1) (tCons (tTup (tCons (tC (.int 0)) (tCons (tC (.int 1)) tNil))) (tCons (tC .non) (tCons (tTup (tCons (tTup (tCons (tC (.int 1)) (tCons (tC (.int 1)) tNil))) tNil)) (tCons (tC .non) (tCons (tC .non) tNil))))))))) tNil)))
  (tSeq (tAsg (tLst (tCons (tC (.str "poly")) (tCons (tC (.str "reason ('roots', 2)")) (tCons (tC (.str "reason ('roots', 0)")) (tCons (tC (.str "reason ('roots', 0)")) (tCons (tC (.str "reason ('roots', 2)")) (tCons (tC (.str "reason ('roots', 0)")) tNil))))))) (gName 4))
  (tRet (tOp (rEqD K) (tVar 3) (tLc (iList K (tVar 4)) (gName 5) tYes (tTup (tCons (tC (.str "refused")) (tCons (tVar 5) tNil))) [5])))))))))))
theorem pure__law_rest_right (K : PySem.W.Frag) (vs : List V) (H : Hp) (Q : VK) (E : XK) (h : sp__law_rest_right K vs H Q E) : t__law_rest_right K { nx := fun _ H' => Q .non H', rt := Q } (start ["dice", "two", "none", "told", "due", "word"] vs) H := by
  obtain ⟨D, two, rfl, hD, pT, hT, hq⟩ := h
  unfold t__law_rest_right
  walk_at "z"
  have hDi := hD
  have hDf := hD.lsts
  refine ⟨by decide, fun am1 hm1 => ?_⟩
  have nm1 : am1 ∉ [D] := hDf.new hm1
  have sm1 := same_upd (o := .tup []) hm1
  have em1 : upd H am1 (.tup []) am1 = some (.tup []) := upd_same
  generalize upd H am1 (.tup []) = Gm1 at *
  replace hDf := hDf.same sm1
  have pm1 : Pl Gm1 [D] (.tuple []) (.ref am1) := plT2 hDf em1 plN
  refine ⟨by decide, fun am2 hm2 => ?_⟩
  have nm2 : am2 ∉ [D] := hDf.new hm2
  have sm2 := same_upd (o := .tup [.int (1), .int (1)]) hm2
  have em2 : upd Gm1 am2 (.tup [.int (1), .int (1)]) am2 = some (.tup [.int (1), .int (1)]) := upd_same
  generalize upd Gm1 am2 (.tup [.int (1), .int (1)]) = Gm2 at *
  replace hDf := hDf.same sm2
  have pm2 : Pl Gm2 [D] (.tuple [.int (1), .int (1)]) (.ref am2) := plT2 hDf em2 (plC (by rw [Pl]) (plC (by rw [Pl]) plN))
  refine ⟨by decide, fun am3 hm3 => ?_⟩
  have nm3 : am3 ∉ [D] := hDf.new hm3
  have sm3 := same_upd (o := .tup [.int (0), .int (1)]) hm3
  have em3 : upd Gm2 am3 (.tup [.int (0), .int (1)]) am3 = some (.tup [.int (0), .int (1)]) := upd_same
  generalize upd Gm2 am3 (.tup [.int (0), .int (1)]) = Gm3 at *
  replace hDf := hDf.same sm3
  have pm3 : Pl Gm3 [D] (.tuple [.int (0), .int (1)]) (.ref am3) := plT2 hDf em3 (plC (by rw [Pl]) (plC (by rw [Pl]) plN))
  refine ⟨by decide, fun am4 hm4 => ?_⟩
  have nm4 : am4 ∉ [D] := hDf.new hm4
  have sm4 := same_upd (o := .tup [V.ref am2, V.ref am3]) hm4
  have em4 : upd Gm3 am4 (.tup [V.ref am2, V.ref am3]) am4 = some (.tup [V.ref am2, V.ref am3]) := upd_same
  generalize upd Gm3 am4 (.tup [V.ref am2, V.ref am3]) = Gm4 at *
  replace hDf := hDf.same sm4
  have pm4 : Pl Gm4 [D] (.tuple [(.tuple [.int (1), .int (1)]), (.tuple [.int (0), .int (1)])]) (.ref am4) := plT2 hDf em4 (plC (pm2.same (by walk_at "ss")) (plC (pm3.same (by walk_at "ss")) plN))
  refine ⟨by decide, fun am5 hm5 => ?_⟩
  have nm5 : am5 ∉ [D] := hDf.new hm5
  have sm5 := same_upd (o := .lst []) hm5
  have em5 : upd Gm4 am5 (.lst []) am5 = some (.lst []) := upd_same
  generalize upd Gm4 am5 (.lst []) = Gm5 at *
  replace hDf := hDf.same sm5
  have pm5 : Pl Gm5 [D] (.list []) (.ref am5) := plL2 nm5 em5 plN
  refine ⟨by decide, fun am6 hm6 => ?_⟩
  have nm6 : am6 ∉ [D] := hDf.new hm6
  have sm6 := same_upd (o := .tup [.int (1), .int (1)]) hm6
  have em6 : upd Gm5 am6 (.tup [.int (1), .int (1)]) am6 = some (.tup [.int (1), .int (1)]) := upd_same
  generalize upd Gm5 am6 (.tup [.int (1), .int (1)]) = Gm6 at *
  replace hDf := hDf.same sm6
  have pm6 : Pl Gm6 [D] (.tuple [.int (1), .int (1)]) (.ref am6) := plT2 hDf em6 (plC (by rw [Pl]) (plC (by rw [Pl]) plN))
  refine ⟨by decide, fun am7 hm7 => ?_⟩
  have nm7 : am7 ∉ [D] := hDf.new hm7
  have sm7 := same_upd (o := .tup [V.ref am6]) hm7
  have em7 : upd Gm6 am7 (.tup [V.ref am6]) am7 = some (.tup [V.ref am6]) := upd_same
  generalize upd Gm6 am7 (.tup [V.ref am6]) = Gm7 at *
  replace hDf := hDf.same sm7
  refine ⟨am7, 14, [V.ref am6], rfl, rfl, sqT_of em7, by simp, by decide, by decide, by simp, ?_⟩
  rw [show (List.replicate (14 : Int).toNat [V.ref am6]).flatten = List.replicate 14 (V.ref am6) from rfl]
  refine fun am8 hm8 => ?_
  have nm8 : am8 ∉ [D] := hDf.new hm8
  have sm8 := same_upd (o := .tup (List.replicate 14 (V.ref am6))) hm8
  have em8 : upd Gm7 am8 (.tup (List.replicate 14 (V.ref am6))) am8 = some (.tup (List.replicate 14 (V.ref am6))) := upd_same
  generalize upd Gm7 am8 (.tup (List.replicate 14 (V.ref am6))) = Gm8 at *
  replace hDf := hDf.same sm8
  have pm8 : Pl Gm8 [D] (.tuple (List.replicate 14 ((.tuple [.int (1), .int (1)])))) (.ref am8) := plT2 hDf em8 (plRep (pm6.same (by walk_at "ss")) 14)
  refine ⟨by decide, fun am9 hm9 => ?_⟩
  have nm9 : am9 ∉ [D] := hDf.new hm9
  have sm9 := same_upd (o := .lst [V.ref am1, .non, V.ref am4, V.ref am5, .str "poly", V.ref am8]) hm9
  have em9 : upd Gm8 am9 (.lst [V.ref am1, .non, V.ref am4, V.ref am5, .str "poly", V.ref am8]) am9 = some (.lst [V.ref am1, .non, V.ref am4, V.ref am5, .str "poly", V.ref am8]) := upd_same
  generalize upd Gm8 am9 (.lst [V.ref am1, .non, V.ref am4, V.ref am5, .str "poly", V.ref am8]) = Gm9 at *
  replace hDf := hDf.same sm9
  replace hDi := Dice.same hDi (show Same _ Gm9 by walk_at "ss")
  refine ⟨D, am9, _, rfl, hDi, fun e => nm9 (e ▸ List.mem_cons_self), em9, by simp, by simp, fun nn H1 hv k1 dm9 => ?_⟩
  obtain ⟨dn, mn, pN⟩ : ∃ d ∈ restD, Pl H1 [D] d nn := by
    simp only [List.mem_cons, List.not_mem_nil, or_false] at hv
    rcases hv with rfl | rfl | rfl | rfl | rfl | rfl
    · exact ⟨(.tuple []), List.mem_of_getElem? (i := 0) rfl, Pl.mono (k1.kn) _ _ (pm1.same (by walk_at "ss"))⟩
    · exact ⟨.none, List.mem_of_getElem? (i := 1) rfl, Pl.mono (k1.kn) _ _ (by rw [Pl])⟩
    · exact ⟨(.tuple [(.tuple [.int (1), .int (1)]), (.tuple [.int (0), .int (1)])]), List.mem_of_getElem? (i := 2) rfl, Pl.mono (k1.kn) _ _ (pm4.same (by walk_at "ss"))⟩
    · exact ⟨(.list []), List.mem_of_getElem? (i := 3) rfl, Pl.mono (k1.kn) _ _ (pm5.same (by walk_at "ss"))⟩
    · exact ⟨.str "poly", List.mem_of_getElem? (i := 4) rfl, Pl.mono (k1.kn) _ _ (by rw [Pl])⟩
    · exact ⟨(.tuple (List.replicate 14 ((.tuple [.int (1), .int (1)])))), List.mem_of_getElem? (i := 5) rfl, Pl.mono (k1.kn) _ _ (pm8.same (by walk_at "ss"))⟩
  replace hDf := hDf.keep k1 dm9
  replace hDi := dm9
  have kA : Keep D H H1 := ((Keep.refl D H).same (by walk_at "ss")).trans k1
  have tb : LamX.Tabs (Ts K) H1 := by
    obtain ⟨_, _, _, hz⟩ := hD
    exact Tabs.keep hT hz kA
  have c : Cxt K D H [] [(two, twoD), (nn, dn)] H1 := ⟨kA.kn, tb, hDi, by simp, fun q hq => by
    simp only [List.mem_cons, List.not_mem_nil, or_false] at hq
    rcases hq with rfl | rfl
    · exact ⟨Pl.mono kA.kn _ _ pT, trivial⟩
    · exact ⟨pN, trivial⟩⟩
  walk_at "z"
  refine firstC (w := pW) c (by decide +kernel) (fun H5 Q5 c5 hQ5 => met_poly (fun E5 Q6 hR => ?_) hQ5) fun L q H3 nL s => ?_
  · walk_at "z"
    exact ⟨_, rfl, .inl (mkZ (rest_z _ mn) (c5.odd (nn, dn) (by simp)).1 hR)⟩
  generalize upd H3 L (.lst [.ref q]) = H4 at *
  walk_at "z"
  refine app_any (w := rW 2) s (by first | omega | (simp; done) | (simp; omega)) (by decide +kernel) (fun H5 Q5 c5 hQ5 => met_ref (n := 2) (by decide +kernel) (fun E5 Q6 hR => ?_) hQ5) fun H6 s => ?_
  · walk_at "z"
    exact ⟨_, _, _, rfl, .inr ⟨_, _, _, ⟨_, (mkT (c5.odd (two, twoD) (by simp)).1), two_ne, rfl, .inr two_chain, mkNo, mkNo, rfl⟩, (by decide +kernel), (by decide +kernel), ref_of (show rootsQ twoP .none .none = 2 by decide +kernel) hR⟩⟩
  refine app_any (w := rW 0) s (by first | omega | (simp; done) | (simp; omega)) (by decide +kernel) (fun H5 Q5 c5 hQ5 => met_ref (n := 0) (by decide +kernel) (fun E5 Q6 hR => ?_) hQ5) fun H6 s => ?_
  · walk_at "z"
    refine ⟨by decide, fun a2 h2 => ?_⟩
    have sa2 := same_upd (o := .tup [V.int 2, V.int 1]) h2
    have p2 : Pl (upd H5 a2 (.tup [V.int 2, V.int 1])) [] (.tuple [.int 2, .int 1]) (.ref a2) := plT0 upd_same (plC (by rw [Pl]) (plC (by rw [Pl]) plN))
    generalize upd H5 a2 (.tup [V.int 2, V.int 1]) = J2 at *
    replace c5 := c5.same sa2
    replace hR := hR.same sa2
    exact ⟨_, _, _, rfl, .inr ⟨_, _, _, ⟨_, (mkT (c5.odd (two, twoD) (by simp)).1), two_ne, rfl, .inr two_chain, (mkN p2 (by decide +kernel)), mkNo, rfl⟩, (by decide +kernel), (by decide +kernel), ref_of (show rootsQ twoP (.tuple [.int 2, .int 1]) .none = 0 by decide +kernel) hR⟩⟩
  refine app_any (w := rW 0) s (by first | omega | (simp; done) | (simp; omega)) (by decide +kernel) (fun H5 Q5 c5 hQ5 => met_ref (n := 0) (by decide +kernel) (fun E5 Q6 hR => ?_) hQ5) fun H6 s => ?_
  · walk_at "z"
    refine ⟨by decide, fun a2 h2 => ?_⟩
    have sa2 := same_upd (o := .tup [V.int 2, V.int 1]) h2
    have p2 : Pl (upd H5 a2 (.tup [V.int 2, V.int 1])) [] (.tuple [.int 2, .int 1]) (.ref a2) := plT0 upd_same (plC (by rw [Pl]) (plC (by rw [Pl]) plN))
    generalize upd H5 a2 (.tup [V.int 2, V.int 1]) = J2 at *
    replace c5 := c5.same sa2
    replace hR := hR.same sa2
    exact ⟨_, _, _, _, rfl, .inr (.inr ⟨_, (mkT (c5.odd (two, twoD) (by simp)).1), .inr ⟨_, _, _, ⟨_, (mkT (c5.odd (two, twoD) (by simp)).1), two_ne, rfl, .inr two_chain, (mkN p2 (by decide +kernel)), mkNo, rfl⟩, (by decide +kernel), (by decide +kernel), ref_of (show rootsQ twoP (.tuple [.int 2, .int 1]) .none = 0 by decide +kernel) hR⟩⟩)⟩
  refine app_any (w := rW 2) s (by first | omega | (simp; done) | (simp; omega)) (by decide +kernel) (fun H5 Q5 c5 hQ5 => met_ref (n := 2) (by decide +kernel) (fun E5 Q6 hR => ?_) hQ5) fun H6 s => ?_
  · walk_at "z"
    refine ⟨by decide, fun a1 h1 => ?_⟩
    have sa1 := same_upd (o := .tup [V.int 1, V.int 1]) h1
    have p1 : Pl (upd H5 a1 (.tup [V.int 1, V.int 1])) [] (.tuple [.int 1, .int 1]) (.ref a1) := plT0 upd_same (plC (by rw [Pl]) (plC (by rw [Pl]) plN))
    generalize upd H5 a1 (.tup [V.int 1, V.int 1]) = J1 at *
    replace c5 := c5.same sa1
    replace hR := hR.same sa1
    refine ⟨by decide, fun a3 h3 => ?_⟩
    have sa3 := same_upd (o := .tup [V.ref a1]) h3
    have p3 : Pl (upd J1 a3 (.tup [V.ref a1])) [] (.tuple [.tuple [.int 1, .int 1]]) (.ref a3) := plT0 upd_same (plC (Pl.same p1 sa3) plN)
    generalize upd J1 a3 (.tup [V.ref a1]) = J3 at *
    replace c5 := c5.same sa3
    replace hR := hR.same sa3
    replace p1 := p1.same sa3
    exact ⟨_, _, _, _, _, _, rfl, .inr ⟨_, (mkT (c5.odd (two, twoD) (by simp)).1), two_ne, .inr ⟨_, mkNo, .inr ⟨_, mkNo, .inr ⟨_, mkU p3, (by simp), .inr ⟨_, mkNo, .inr ⟨_, mkNo, .inr ⟨rfl, .inr ⟨rfl, .inr two_chain, .inl rfl, (by decide +kernel), .inl ⟨(by decide +kernel), ref_of (show rootsQ twoP .none .none = 2 by decide +kernel) hR⟩⟩⟩⟩⟩⟩⟩⟩⟩⟩
  refine app_any (w := rW 0) s (by first | omega | (simp; done) | (simp; omega)) (by decide +kernel) (fun H5 Q5 c5 hQ5 => met_ref (n := 0) (by decide +kernel) (fun E5 Q6 hR => ?_) hQ5) fun H6 s => ?_
  · walk_at "z"
    refine ⟨by decide, fun a0 h0 => ?_⟩
    have sa0 := same_upd (o := .tup [V.int 0, V.int 1]) h0
    have p0 : Pl (upd H5 a0 (.tup [V.int 0, V.int 1])) [] (.tuple [.int 0, .int 1]) (.ref a0) := plT0 upd_same (plC (by rw [Pl]) (plC (by rw [Pl]) plN))
    generalize upd H5 a0 (.tup [V.int 0, V.int 1]) = J0 at *
    replace c5 := c5.same sa0
    replace hR := hR.same sa0
    refine ⟨by decide, fun a1 h1 => ?_⟩
    have sa1 := same_upd (o := .tup [V.int 1, V.int 1]) h1
    have p1 : Pl (upd J0 a1 (.tup [V.int 1, V.int 1])) [] (.tuple [.int 1, .int 1]) (.ref a1) := plT0 upd_same (plC (by rw [Pl]) (plC (by rw [Pl]) plN))
    generalize upd J0 a1 (.tup [V.int 1, V.int 1]) = J1 at *
    replace c5 := c5.same sa1
    replace hR := hR.same sa1
    replace p0 := p0.same sa1
    refine ⟨by decide, fun a3 h3 => ?_⟩
    have sa3 := same_upd (o := .tup [V.ref a1]) h3
    have p3 : Pl (upd J1 a3 (.tup [V.ref a1])) [] (.tuple [.tuple [.int 1, .int 1]]) (.ref a3) := plT0 upd_same (plC (Pl.same p1 sa3) plN)
    generalize upd J1 a3 (.tup [V.ref a1]) = J3 at *
    replace c5 := c5.same sa3
    replace hR := hR.same sa3
    replace p0 := p0.same sa3
    replace p1 := p1.same sa3
    exact ⟨_, _, _, _, _, _, rfl, .inr ⟨_, (mkT (c5.odd (two, twoD) (by simp)).1), two_ne, .inr ⟨_, (mkN p0 (by decide +kernel)), .inr ⟨_, mkNo, .inr ⟨_, mkU p3, (by simp), .inr ⟨_, mkNo, .inr ⟨_, mkNo, .inr ⟨rfl, .inr ⟨rfl, .inr two_chain, .inl rfl, (by decide +kernel), .inr ⟨by decide +kernel, by decide +kernel, (by decide +kernel), ref_of (show rootsQ oneP .none .none = 0 by decide +kernel) hR⟩⟩⟩⟩⟩⟩⟩⟩⟩⟩
  refine ⟨by decide, fun M hM => ?_⟩
  have sM := same_upd (o := .lst [V.str "poly", V.str "reason ('roots', 2)", V.str "reason ('roots', 0)", V.str "reason ('roots', 0)", V.str "reason ('roots', 2)", V.str "reason ('roots', 0)"]) hM
  have eM : upd H6 M (.lst [V.str "poly", V.str "reason ('roots', 2)", V.str "reason ('roots', 0)", V.str "reason ('roots', 0)", V.str "reason ('roots', 2)", V.str "reason ('roots', 0)"]) M = some (.lst (restW.map V.str)) := upd_same
  generalize upd H6 M (.lst [V.str "poly", V.str "reason ('roots', 2)", V.str "reason ('roots', 0)", V.str "reason ('roots', 0)", V.str "reason ('roots', 2)", V.str "reason ('roots', 0)"]) = H7 at *
  walk_at "z"
  refine ⟨M, rfl, ⟨_, sqL_of eM⟩, comp_due eM (by decide) (by decide +kernel) (fun z H8 s8 Qo hQo => ?_) (fun q H8 s8 u => ?_)⟩
  · walk_at "z"
    exact ⟨by decide, fun a h => hQo a _ (same_upd h) upd_same⟩
  · have sF := s.same (sM.trans s8)
    have tF := sF.t
    rw [show [pW] ++ [rW 2] ++ [rW 0] ++ [rW 0] ++ [rW 2] ++ [rW 0] = restW.map rf by decide +kernel] at tF
    refine eq_told tF u ?_
    have cF := sF.c.drop nL
    exact hq _ cF.kn cF.dice cF.tb
theorem ok__law_rest_right {P : Program} {w : World} {K : PySem.W.Frag} {mg : Str → Option Value} {base : Heap} (T : Tx K mg) (TB : ∀ p ∈ tfs, LamX.TabB base mg (He.cT K p).1 (He.cT K p).2) : OkkG P w K mg base 13 "_law_rest_right" ["dice", "two"] (sp__law_rest_right K) := by
  obtain ⟨fd_alone_answer, F_alone_answer, b_alone_answer, g_alone_answer, k_alone_answer⟩ := ok_alone_answer (P := P) (w := w) (base := base) T
  obtain ⟨fd_sign_answer, F_sign_answer, b_sign_answer, g_sign_answer, k_sign_answer⟩ := ok_sign_answer (P := P) (w := w) (base := base) T
  obtain ⟨fd_root_order_answer, F_root_order_answer, b_root_order_answer, g_root_order_answer, k_root_order_answer⟩ := ok_root_order_answer (P := P) (w := w) (base := base) T
  obtain ⟨fd_root_stretches, F_root_stretches, b_root_stretches, g_root_stretches, k_root_stretches⟩ := ok_root_stretches (P := P) (w := w) (base := base) T
  obtain ⟨fd__law_pick, F__law_pick, b__law_pick, g__law_pick, k__law_pick⟩ := ok__law_pick (P := P) (w := w) (base := base) T
  have dis := T.dis
  obtain ⟨fd__law_word, F__law_word⟩ := T.f__law_word
  have gg__law_word := T.g__law_word
  have hb__law_word := F__law_word.bindsN (ps := ["call"]) (fun _ _ _ _ _ _ us hl => match us, hl with | [_], _ => rfl)
  obtain ⟨fd, F⟩ := T.f__law_rest_right
  refine ⟨fd, okG F sc__law_rest_right (fun vs H Q E h => len__law_rest_right h) (fun c A outer s H vs Q E hc hgd hr h => ⟨t__law_rest_right K, PSs.nox ?_, pure__law_rest_right K vs H Q E h⟩), F.bindsN (fun _ _ _ _ _ _ us hl => match us, hl with | [_, _], _ => rfl), T.g__law_rest_right, F.kp⟩
  have tb := TB ("_law_rest_right", none) (by simp [tfs])
  have ec : (He.cT K ("_law_rest_right", none)).1 = c := codeOf_fd F hc
  rw [ec] at tb
  have hu80 := hu80_of hr
  have hu64 := hu64_of hr
  exact (pss_cons (ps_set (i := 2) sc__law_rest_right.nd rfl (by first | exact Or.inl rfl | exact Or.inr rfl) (pe_call F__law_pick (hr.mono (by decide)) rfl g__law_pick k__law_pick b__law_pick .nil pass0 (pa_cons (pv 0) (pa_cons (pe_lst (pa_cons (pe_tup pa_nil) (pa_cons pe_non (pa_cons (pe_tup (pa_cons (pe_tup (pa_cons pe_int (pa_cons pe_int pa_nil))) (pa_cons (pe_tup (pa_cons pe_int (pa_cons pe_int pa_nil))) pa_nil))) (pa_cons (pe_lst pa_nil) (pa_cons pe_str (pa_cons (pe_op op_repT (pe_tup (pa_cons (pe_tup (pa_cons pe_int (pa_cons pe_int pa_nil))) pa_nil)) pe_int) pa_nil))))))) pa_nil))))
      (pss_cons (ps_set (i := 3) sc__law_rest_right.nd rfl (by first | exact Or.inl rfl | exact Or.inr rfl) (pe_lst (pa_cons (pe_met (k := 10) F__law_word gg__law_word hb__law_word sc__law_word rfl (.inl rfl) (hr.mono (by decide)) (fun cdv hr2 => met_gives T hgd hr2) rfl tb rfl (.tail _ (.head _)) (hu__law_rest_right dis) (LamX.lamS_by (sc := defScope s__law_rest_right) (by decide +kernel)) rfl (fun _ _ _ _ _ => rfl) (fun _ _ _ _ E _ _ hr => (pe_call F_root_stretches (hr.mono (by decide)) rfl g_root_stretches k_root_stretches b_root_stretches .nil (passes_call (takes_of rfl rfl rfl rfl) (fun _ _ _ _ h => h)) (pa_cons (pv 2) pa_nil)))) pa_nil)))
      (pss_cons (ps_expr (pe_bm PySem.F.plainAttrs_list PySem.F.slot_list_append PySem.F.type_list_append mt_append (pv 3) (pa_cons (pe_met (k := 10) F__law_word gg__law_word hb__law_word sc__law_word rfl (.inl rfl) (hr.mono (by decide)) (fun cdv hr2 => met_gives T hgd hr2) rfl tb rfl (.tail _ (.head _)) (hu__law_rest_right dis) (LamX.lamS_by (sc := defScope s__law_rest_right) (by decide +kernel)) rfl (fun _ _ _ _ _ => rfl) (fun _ _ _ _ E _ _ hr => (pe_call F_alone_answer (hr.mono (by decide)) rfl g_alone_answer k_alone_answer b_alone_answer .nil (passes_call (takes_of rfl rfl rfl rfl) (fun _ _ _ _ h => h)) (pa_cons (pv 1) (pa_cons pe_non (pa_cons pe_non pa_nil)))))) pa_nil)))
      (pss_cons (ps_expr (pe_bm PySem.F.plainAttrs_list PySem.F.slot_list_append PySem.F.type_list_append mt_append (pv 3) (pa_cons (pe_met (k := 10) F__law_word gg__law_word hb__law_word sc__law_word rfl (.inl rfl) (hr.mono (by decide)) (fun cdv hr2 => met_gives T hgd hr2) rfl tb rfl (.tail _ (.head _)) (hu__law_rest_right dis) (LamX.lamS_by (sc := defScope s__law_rest_right) (by decide +kernel)) rfl (fun _ _ _ _ _ => rfl) (fun _ _ _ _ E _ _ hr => (pe_call F_alone_answer (hr.mono (by decide)) rfl g_alone_answer k_alone_answer b_alone_answer .nil (passes_call (takes_of rfl rfl rfl rfl) (fun _ _ _ _ h => h)) (pa_cons (pv 1) (pa_cons (pe_tup (pa_cons pe_int (pa_cons pe_int pa_nil))) (pa_cons pe_non pa_nil)))))) pa_nil)))
      (pss_cons (ps_expr (pe_bm PySem.F.plainAttrs_list PySem.F.slot_list_append PySem.F.type_list_append mt_append (pv 3) (pa_cons (pe_met (k := 10) F__law_word gg__law_word hb__law_word sc__law_word rfl (.inl rfl) (hr.mono (by decide)) (fun cdv hr2 => met_gives T hgd hr2) rfl tb rfl (.tail _ (.head _)) (hu__law_rest_right dis) (LamX.lamS_by (sc := defScope s__law_rest_right) (by decide +kernel)) rfl (fun _ _ _ _ _ => rfl) (fun _ _ _ _ E _ _ hr => (pe_call F_sign_answer (hr.mono (by decide)) rfl g_sign_answer k_sign_answer b_sign_answer .nil (passes_call (takes_of rfl rfl rfl rfl) (fun _ _ _ _ h => h)) (pa_cons (pv 1) (pa_cons (pv 1) (pa_cons (pe_tup (pa_cons pe_int (pa_cons pe_int pa_nil))) (pa_cons pe_non pa_nil))))))) pa_nil)))
      (pss_cons (ps_expr (pe_bm PySem.F.plainAttrs_list PySem.F.slot_list_append PySem.F.type_list_append mt_append (pv 3) (pa_cons (pe_met (k := 10) F__law_word gg__law_word hb__law_word sc__law_word rfl (.inl rfl) (hr.mono (by decide)) (fun cdv hr2 => met_gives T hgd hr2) rfl tb rfl (.tail _ (.head _)) (hu__law_rest_right dis) (LamX.lamS_by (sc := defScope s__law_rest_right) (by decide +kernel)) rfl (fun _ _ _ _ _ => rfl) (fun _ _ _ _ E _ _ hr => (pe_call F_root_order_answer (hr.mono (by decide)) rfl g_root_order_answer k_root_order_answer b_root_order_answer .nil (passes_call (takes_of rfl rfl rfl rfl) (fun _ _ _ _ h => h)) (pa_cons (pv 1) (pa_cons pe_non (pa_cons pe_non (pa_cons (pe_tup (pa_cons (pe_tup (pa_cons pe_int (pa_cons pe_int pa_nil))) pa_nil)) (pa_cons pe_non (pa_cons pe_non pa_nil))))))))) pa_nil)))
      (pss_cons (ps_expr (pe_bm PySem.F.plainAttrs_list PySem.F.slot_list_append PySem.F.type_list_append mt_append (pv 3) (pa_cons (pe_met (k := 10) F__law_word gg__law_word hb__law_word sc__law_word rfl (.inl rfl) (hr.mono (by decide)) (fun cdv hr2 => met_gives T hgd hr2) rfl tb rfl (.tail _ (.head _)) (hu__law_rest_right dis) (LamX.lamS_by (sc := defScope s__law_rest_right) (by decide +kernel)) rfl (fun _ _ _ _ _ => rfl) (fun _ _ _ _ E _ _ hr => (pe_call F_root_order_answer (hr.mono (by decide)) rfl g_root_order_answer k_root_order_answer b_root_order_answer .nil (passes_call (takes_of rfl rfl rfl rfl) (fun _ _ _ _ h => h)) (pa_cons (pv 1) (pa_cons (pe_tup (pa_cons pe_int (pa_cons pe_int pa_nil))) (pa_cons pe_non (pa_cons (pe_tup (pa_cons (pe_tup (pa_cons pe_int (pa_cons pe_int pa_nil))) pa_nil)) (pa_cons pe_non (pa_cons pe_non pa_nil))))))))) pa_nil)))
      (pss_cons (ps_set (i := 4) sc__law_rest_right.nd rfl (by first | exact Or.inl rfl | exact Or.inr rfl) (pe_lst (pa_cons pe_str (pa_cons pe_str (pa_cons pe_str (pa_cons pe_str (pa_cons pe_str (pa_cons pe_str pa_nil))))))))
      (pss_one (ps_ret (pe_cmpR (op_eqD hu64) (pv 3) (pe_lc (own := [("word", 5)]) (g := (gName 5)) (tt := tYes) rfl sc__law_rest_right.nd (pi_list (pv 4)) (blkOk_by (own := [("word", 5)]) (N := ["dice", "two", "none", "told", "due", "word"]) (sc := defScope s__law_rest_right) (by decide +kernel)) (fun _ _ _ _ _ => (pg_name (i := 5) sc__law_rest_right.nd rfl (by first | exact Or.inl rfl | exact Or.inr rfl))) (fun _ _ _ _ _ => pts_nil) (fun _ _ _ _ _ => (pe_tup (pa_cons pe_str (pa_cons (pv 5) pa_nil))))) (nomark _))))))))))))
/-! ### law -/
theorem sc_law : FnScope ["script", "two", "spot", "dice", "told"] ["script"] (defScope s_law) := ⟨rfl, rfl, rfl, by decide +kernel, rfl, by decide +kernel, by decide +kernel⟩
def sp_law (K : PySem.W.Frag) : Sp := fun vs H Q _ => ∃ (a : Addr) (ns : List Int), vs = [.ref a] ∧ SqL K H a (ns.map V.int) ∧ ns.length ≤ 63 ∧ LamX.Tabs (Ts K) H ∧ ∀ H', Q (.bl true) H'
theorem len_law {K : PySem.W.Frag} {vs : List V} {H : Hp} {Q : VK} {E : XK} (h : sp_law K vs H Q E) : vs.length = ["script"].length := by
  obtain ⟨_, _, rfl, _⟩ := h
  rfl
def t_law_f1_b (K : PySem.W.Frag) : TS := (tSeq (tAsg (tCall (sp__law_dice K) [] E0 (tCons (tVar 0) (tCons (tVar 2) tNil))) (gName 3))
  (tIfS (tOr (tNot (tB (tCall (sp__law_ends_right K) [] E0 (tCons (tVar 3) (tCons (tVar 1) tNil))))) (tNot (tB (tCall (sp__law_rest_right K) [] E0 (tCons (tVar 3) (tCons (tVar 1) tNil)))))) (tRet (tC (.bl false))) tNext))
def t_law (K : PySem.W.Frag) : TS := (tSeq (tAsg (tTup (tCons (tTup (tCons (tUn rNeg (tC (.int 2))) (tCons (tC (.int 1)) tNil))) (tCons (tTup (tCons (tC (.int 0)) (tCons (tC (.int 1)) tNil))) (tCons (tTup (tCons (tC (.int 1)) (tCons (tC (.int 1)) tNil))) tNil)))) (gName 1))
  (tSeq (tFor (iRng1 (tCons (tCB (rMax2) (tCons (tC (.int 1)) (tCons (tCB (rMin2) (tCons (tC (.int 4)) (tCons (tCB (rLenU K) (tCons (tVar 0) tNil)) tNil))) tNil))) tNil)) (gName 2) (t_law_f1_b K))
  (tSeq (tAsg (tLst (tCons (LamX.tLam (Ts K) (TMet K) (fun E => (tCall (sp_root_stretches K) [] E (tCons (tTup (tCons (tTup (tCons (tC (.int 1)) (tCons (tC (.int 1)) tNil))) tNil)) tNil)))) tNil)) (gName 4))
  (tSeq (tDrop (tBM K "list" rAppend (tVar 4) (tCons (LamX.tLam (Ts K) (TMet K) (fun E => (tCall (sp_roots_answer K) [] E (tCons (tOp (rRepT K) (tTup (tCons (tTup (tCons (tC (.int 1)) (tCons (tC (.int 1)) tNil))) tNil)) (tC (.int 13))) (tCons (tC .non) (tCons (tC .non) tNil)))))) tNil)))
  (tRet (tOp (rEqD K) (tVar 4) (tOp rRep (tLst (tCons (tTup (tCons (tC (.str "refused")) (tCons (tC (.str "fine")) tNil))) tNil)) (tC (.int 2)))))))))
def thirteen : List PyData := List.replicate 13 (.tuple [.int 1, .int 1])
theorem thirteen_ok : polyB 0 (some 12) (10 ^ 60) (.tuple thirteen) = true ∧ (∀ d ∈ thirteen, botD d = 1) ∧ chainB (thirteen.map topD, 1) = true ∧ rootsOk (thirteen.map topD, 1) .none .none = true := by decide +kernel
theorem pure_law (K : PySem.W.Frag) (vs : List V) (H : Hp) (Q : VK) (E : XK) (h : sp_law K vs H Q E) : t_law K { nx := fun _ H' => Q .non H', rt := Q } (start ["script", "two", "spot", "dice", "told"] vs) H := by
  obtain ⟨a, ns, rfl, hS, hl, hT, hq⟩ := h
  unfold t_law
  walk_at "z"
  refine ⟨by decide, fun q1 h1 => ?_⟩
  have f1 := same_upd (o := .tup [V.int (-2), V.int 1]) h1
  have p1 : Pl (upd H q1 (.tup [V.int (-2), V.int 1])) [] (.tuple [.int (-2), .int 1]) (.ref q1) := plT0 upd_same (plC (by rw [Pl]) (plC (by rw [Pl]) plN))
  generalize upd H q1 (.tup [V.int (-2), V.int 1]) = G1 at *
  refine ⟨by decide, fun q2 h2 => ?_⟩
  have f2 := same_upd (o := .tup [V.int 0, V.int 1]) h2
  have p2 : Pl (upd G1 q2 (.tup [V.int 0, V.int 1])) [] (.tuple [.int 0, .int 1]) (.ref q2) := plT0 upd_same (plC (by rw [Pl]) (plC (by rw [Pl]) plN))
  generalize upd G1 q2 (.tup [V.int 0, V.int 1]) = G2 at *
  refine ⟨by decide, fun q3 h3 => ?_⟩
  have f3 := same_upd (o := .tup [V.int 1, V.int 1]) h3
  have p3 : Pl (upd G2 q3 (.tup [V.int 1, V.int 1])) [] (.tuple [.int 1, .int 1]) (.ref q3) := plT0 upd_same (plC (by rw [Pl]) (plC (by rw [Pl]) plN))
  generalize upd G2 q3 (.tup [V.int 1, V.int 1]) = G3 at *
  refine ⟨by decide, fun q4 h4 => ?_⟩
  have f4 := same_upd (o := .tup [V.ref q1, V.ref q2, V.ref q3]) h4
  have p4 : Pl (upd G3 q4 (.tup [V.ref q1, V.ref q2, V.ref q3])) [] twoD (.ref q4) := plT0 upd_same (plC (Pl.same p1 ((f2.trans f3).trans f4)) (plC (Pl.same p2 (f3.trans f4)) (plC (Pl.same p3 f4) plN)))
  generalize upd G3 q4 (.tup [V.ref q1, V.ref q2, V.ref q3]) = G4 at *
  have fA : Same H G4 := ((f1.trans f2).trans f3).trans f4
  have hS4 : SqL K G4 a (ns.map V.int) := fA.seq hS
  have hT4 : LamX.Tabs (Ts K) G4 := hT.ext fun b o e => fA b o e
  walk_at "z"
  refine lenL hS4 ?_
  walk_at "z"
  have hb : ∃ n : Nat, (if (if ((ns.map V.int).length : Int) < 4 then ((ns.map V.int).length : Int) else 4) > 1 then (if ((ns.map V.int).length : Int) < 4 then ((ns.map V.int).length : Int) else 4) else 1) = (n : Int) ∧ n ≤ 4 := by
    rw [List.length_map]
    refine ⟨(if (if (ns.length : Int) < 4 then (ns.length : Int) else 4) > 1 then (if (ns.length : Int) < 4 then (ns.length : Int) else 4) else 1).toNat, ?_, ?_⟩
    · split <;> split <;> omega
    · split <;> split <;> omega
  obtain ⟨n, hn, hn3⟩ := hb
  rw [hn]
  refine ⟨_, rfl, by omega, by omega, for_R (fun i σ H' => ∃ o1 o2, σ = [some (.ref a), some (.ref q4), o1, o2, none] ∧ SqL K H' a (ns.map V.int) ∧ LamX.Tabs (Ts K) H' ∧ Pl H' [] twoD (.ref q4)) ⟨_, _, rfl, hS4, hT4, p4⟩ (fun i σ H' hi h N hN => ?_) (fun σ H' h => ?_)⟩
  · obtain ⟨o1, o2, rfl, hS1, hT1, pT⟩ := h
    unfold t_law_f1_b
    walk_at "z"
    refine ⟨a, ns, i, by rw [Int.zero_add], hS1, fun D H2 hD s2 d2 => ?_⟩
    walk_at "z"
    have pD : Pl H2 [D] twoD (.ref q4) := (Pl.fresh hD _ _ pT).same s2
    refine ⟨D, .ref q4, rfl, d2, pD, hT1.ext fun b o e => s2 b o e, fun H4 k4 d4 t4 => ?_⟩
    walk_at "z"
    have pD4 := Pl.mono k4 _ _ pD
    refine ⟨D, .ref q4, rfl, d4, pD4, t4, fun H5 k5 d5 t5 => ?_⟩
    walk_at "z"
    exact hN _ _ ⟨_, _, rfl, sqL_kn hS1 hD ((KN.same s2).trans (k4.trans k5)), t5, (Pl.mono k5 _ _ pD4).perm fun b hb => by cases hb⟩
  · obtain ⟨o1, o2, rfl, hS1, hT1, pT⟩ := h
    walk_at "z"
    refine first0 (w := lW) hT1 (by decide +kernel) (fun H2 Q2 hQ2 => met_let (fun E Q' hQ' => ?_) hQ2) fun L q H3 s => ?_
    · walk_at "z"
      refine ⟨by decide, fun a1 b1 => ?_⟩
      have k1 := same_upd (o := .tup [V.int 1, V.int 1]) b1
      have j1 : Pl (upd H2 a1 (.tup [V.int 1, V.int 1])) [] (.tuple [.int 1, .int 1]) (.ref a1) := plT0 upd_same (plC (by rw [Pl]) (plC (by rw [Pl]) plN))
      generalize upd H2 a1 (.tup [V.int 1, V.int 1]) = J1 at *
      refine ⟨by decide, fun a2 b2 => ?_⟩
      have k2 := same_upd (o := .tup [V.ref a1]) b2
      have j2 : Pl (upd J1 a2 (.tup [V.ref a1])) [] (.tuple [.tuple [.int 1, .int 1]]) (.ref a2) := plT0 upd_same (plC (Pl.same j1 k2) plN)
      generalize upd J1 a2 (.tup [V.ref a1]) = J2 at *
      exact ⟨_, rfl, .inr ⟨_, mkU j2, by simp, rfl, fun z H' s' => hQ' z H' ((k1.trans k2).trans s')⟩⟩
    replace s : Wd0 K L [lW] (upd H3 L (.lst [.ref q])) := ⟨s.tb, s.t⟩
    generalize upd H3 L (.lst [.ref q]) = H4 at *
    walk_at "z"
    refine app0 s (w := lW) (by simp) (by decide +kernel) (fun H2 Q2 hQ2 => met_let (fun E Q' hQ' => ?_) hQ2) fun H5 s => ?_
    · walk_at "z"
      refine ⟨by decide, fun a1 b1 => ?_⟩
      have k1 := same_upd (o := .tup [V.int 1, V.int 1]) b1
      have j1 : Pl (upd H2 a1 (.tup [V.int 1, V.int 1])) [] (.tuple [.int 1, .int 1]) (.ref a1) := plT0 upd_same (plC (by rw [Pl]) (plC (by rw [Pl]) plN))
      generalize upd H2 a1 (.tup [V.int 1, V.int 1]) = J1 at *
      refine ⟨by decide, fun a2 b2 => ?_⟩
      have k2 := same_upd (o := .tup [V.ref a1]) b2
      have j2 : upd J1 a2 (.tup [V.ref a1]) a2 = some (.tup [V.ref a1]) := upd_same
      generalize upd J1 a2 (.tup [V.ref a1]) = J2 at *
      refine ⟨a2, 13, [V.ref a1], rfl, rfl, sqT_of j2, by simp, by decide, by decide, by simp, fun a3 b3 => ?_⟩
      rw [show (List.replicate (13 : Int).toNat [V.ref a1]).flatten = List.replicate 13 (V.ref a1) from rfl] at *
      have k3 := same_upd (o := .tup (List.replicate 13 (V.ref a1))) b3
      have j3 : Pl (upd J2 a3 (.tup (List.replicate 13 (V.ref a1)))) [] (.tuple thirteen) (.ref a3) := plT0 upd_same (plRep (Pl.same j1 (k2.trans k3)) 13)
      generalize upd J2 a3 (.tup (List.replicate 13 (V.ref a1))) = J3 at *
      exact ⟨_, _, _, rfl, .inr ⟨(thirteen.map topD, 1), .none, .none, ⟨thirteen, ⟨[], j3, thirteen_ok.1, thirteen_ok.2.1⟩, by unfold thirteen; simp, rfl, .inr thirteen_ok.2.2.1, mkNo, mkNo, rfl⟩, thirteen_ok.2.2.2, fun z H' s' => hQ' z H' (((k1.trans k2).trans k3).trans s')⟩⟩
    walk_at "z"
    refine ⟨by decide, fun q8 h8 => ⟨by decide, fun q9 h9 => ?_⟩⟩
    have k8 := same_upd (o := .tup [V.str "refused", V.str "fine"]) h8
    have j8 : upd H5 q8 (.tup [V.str "refused", V.str "fine"]) q8 = some (.tup [V.str "refused", V.str "fine"]) := upd_same
    generalize upd H5 q8 (.tup [V.str "refused", V.str "fine"]) = G8 at *
    have f9 := same_upd (o := .lst [V.ref q8]) h9
    have e9 : upd G8 q9 (.lst [V.ref q8]) q9 = some (.lst [V.ref q8]) := upd_same
    generalize upd G8 q9 (.lst [V.ref q8]) = G9 at *
    refine ⟨q9, 2, [V.ref q8], rfl, rfl, e9, by decide, by decide, (show 1 * 2 ≤ sizeLine by decide), fun q10 h10 => ?_⟩
    rw [show (List.replicate (2 : Int).toNat [V.ref q8]).flatten = [V.ref q8, V.ref q8] from rfl] at *
    have f10 := same_upd (o := .lst [V.ref q8, V.ref q8]) h10
    have e10 : upd G9 q10 (.lst [V.ref q8, V.ref q8]) q10 = some (.lst [V.ref q8, V.ref q8]) := upd_same
    generalize upd G9 q10 (.lst [V.ref q8, V.ref q8]) = G10 at *
    have s10 := (k8.trans f9).trans f10
    have o8 := ts_one ((f9.trans f10) _ _ j8) (w := lW) (by decide +kernel)
    exact eq_told (s.t.same s10) ⟨_, e10, o8.app o8⟩ (hq _)

theorem okF_law {P : Program} {w : World} {K : PySem.W.Frag} {mg : Str → Option Value} {base : Heap} {fd : FuncData} (T : Tx K mg) (F : FunD K "law" "law" (defArgs s_law) (defBody s_law) (defScope s_law) [] [] (He.ga K "law") fd) (TB : ∀ p ∈ tfs, LamX.TabB base mg (He.cT K p).1 (He.cT K p).2) : FnOkG P w K mg base CX0 14 (He.ga K "law") fd ["script"] (sp_law K) := by
  obtain ⟨fd_roots_answer, F_roots_answer, b_roots_answer, g_roots_answer, k_roots_answer⟩ := ok_roots_answer (P := P) (w := w) (base := base) T
  obtain ⟨fd_root_stretches, F_root_stretches, b_root_stretches, g_root_stretches, k_root_stretches⟩ := ok_root_stretches (P := P) (w := w) (base := base) T
  obtain ⟨fd__law_dice, F__law_dice, b__law_dice, g__law_dice, k__law_dice⟩ := ok__law_dice (P := P) (w := w) (base := base) T
  obtain ⟨fd__law_ends_right, F__law_ends_right, b__law_ends_right, g__law_ends_right, k__law_ends_right⟩ := ok__law_ends_right (P := P) (w := w) (base := base) T TB
  obtain ⟨fd__law_rest_right, F__law_rest_right, b__law_rest_right, g__law_rest_right, k__law_rest_right⟩ := ok__law_rest_right (P := P) (w := w) (base := base) T TB
  have hf_len := T.n_len
  have hf_max := T.n_max
  have hf_min := T.n_min
  have hf_range := T.n_range
  have dis := T.dis
  obtain ⟨fd__law_word, F__law_word⟩ := T.f__law_word
  have gg__law_word := T.g__law_word
  have hb__law_word := F__law_word.bindsN (ps := ["call"]) (fun _ _ _ _ _ _ us hl => match us, hl with | [_], _ => rfl)
  refine okG F sc_law (fun vs H Q E h => len_law h) (fun c A outer s H vs Q E hc hgd hr h => ⟨t_law K, PSs.nox ?_, pure_law K vs H Q E h⟩)
  have tb := TB ("law", none) (by simp [tfs])
  have ec : (He.cT K ("law", none)).1 = c := codeOf_fd F hc
  rw [ec] at tb
  have hu80 := hu80_of hr
  have hu64 := hu64_of hr
  exact (pss_cons (ps_set (i := 1) sc_law.nd rfl (by first | exact Or.inl rfl | exact Or.inr rfl) (pe_tup (pa_cons (pe_tup (pa_cons (pe_un un_neg pe_int) (pa_cons pe_int pa_nil))) (pa_cons (pe_tup (pa_cons pe_int (pa_cons pe_int pa_nil))) (pa_cons (pe_tup (pa_cons pe_int (pa_cons pe_int pa_nil))) pa_nil)))))
      (pss_cons (ps_for PassesOwn.never rfl (pi_range1 rfl hf_range (pa_cons (pe_callB (call_max2 rfl) (by rfl) hf_max (by decide +kernel) (pa_cons pe_int (pa_cons (pe_callB (call_min2 rfl) (by rfl) hf_min (by decide +kernel) (pa_cons pe_int (pa_cons (pe_callB call_len_seq (by rfl) hf_len (by decide +kernel) (pa_cons (pv 0) pa_nil)) pa_nil))) pa_nil))) pa_nil)) (pg_name (i := 2) sc_law.nd rfl (by first | exact Or.inl rfl | exact Or.inr rfl)) (pss_cons (ps_set (i := 3) sc_law.nd rfl (by first | exact Or.inl rfl | exact Or.inr rfl) (pe_call F__law_dice (hr.mono (by decide)) rfl g__law_dice k__law_dice b__law_dice .nil pass0 (pa_cons (pv 0) (pa_cons (pv 2) pa_nil))))
      (pss_one (ps_if (PW.pt (pw_or (pt_not (pt_val (pe_callG F__law_ends_right hgd (hr.mono (by decide)) rfl g__law_ends_right k__law_ends_right b__law_ends_right pass0 (pa_cons (pv 3) (pa_cons (pv 1) pa_nil))))) (pw_or1 (pt_not (pt_val (pe_callG F__law_rest_right hgd (hr.mono (by decide)) rfl g__law_rest_right k__law_rest_right b__law_rest_right pass0 (pa_cons (pv 3) (pa_cons (pv 1) pa_nil)))))))) (pss_one (ps_ret pe_bl)) pss_nil))))
      (pss_cons (ps_set (i := 4) sc_law.nd rfl (by first | exact Or.inl rfl | exact Or.inr rfl) (pe_lst (pa_cons (pe_met (k := 10) F__law_word gg__law_word hb__law_word sc__law_word rfl (.inl rfl) (hr.mono (by decide)) (fun cdv hr2 => met_gives T hgd hr2) rfl tb rfl (.tail _ (.tail _ (.head _))) (hu_law dis) (LamX.lamS_by (sc := defScope s_law) (by decide +kernel)) rfl (fun _ _ _ _ _ => rfl) (fun _ _ _ _ E _ _ hr => (pe_call F_root_stretches (hr.mono (by decide)) rfl g_root_stretches k_root_stretches b_root_stretches .nil (passes_call (takes_of rfl rfl rfl rfl) (fun _ _ _ _ h => h)) (pa_cons (pe_tup (pa_cons (pe_tup (pa_cons pe_int (pa_cons pe_int pa_nil))) pa_nil)) pa_nil)))) pa_nil)))
      (pss_cons (ps_expr (pe_bm PySem.F.plainAttrs_list PySem.F.slot_list_append PySem.F.type_list_append mt_append (pv 4) (pa_cons (pe_met (k := 10) F__law_word gg__law_word hb__law_word sc__law_word rfl (.inl rfl) (hr.mono (by decide)) (fun cdv hr2 => met_gives T hgd hr2) rfl tb rfl (.tail _ (.tail _ (.head _))) (hu_law dis) (LamX.lamS_by (sc := defScope s_law) (by decide +kernel)) rfl (fun _ _ _ _ _ => rfl) (fun _ _ _ _ E _ _ hr => (pe_call F_roots_answer (hr.mono (by decide)) rfl g_roots_answer k_roots_answer b_roots_answer .nil (passes_call (takes_of rfl rfl rfl rfl) (fun _ _ _ _ h => h)) (pa_cons (pe_op op_repT (pe_tup (pa_cons (pe_tup (pa_cons pe_int (pa_cons pe_int pa_nil))) pa_nil)) pe_int) (pa_cons pe_non (pa_cons pe_non pa_nil)))))) pa_nil)))
      (pss_one (ps_ret (pe_cmpR (op_eqD hu64) (pv 4) (pe_op op_rep (pe_lst (pa_cons (pe_tup (pa_cons pe_str (pa_cons pe_str pa_nil))) pa_nil)) pe_int) (nomark _))))))))
theorem tx_of {K : PySem.W.Frag} {h : Heap} {mg : Str → Option Value} {w : World} (X : K.In h) (G : h.Ns mainGlobals mg) (S : He.SaysX fal fnl [] tfs exX w h K) : Tx K mg := by
  have c := S.t.d
  have e := S.more
  unfold exX at e
  simp only [Bool.and_eq_true, decide_eq_true_eq] at e
  obtain ⟨⟨⟨⟨⟨x0, x1⟩, x2⟩, x3⟩, x4⟩, x5⟩ := e
  exact {
    f_is_int := c.def_ 0 (d := d_is_int) rfl
    g_is_int := He.glo_ok X G (c.fact 0 (f := .glo "is_int") rfl)
    f_bezout := c.def_ 1 (d := d_bezout) rfl
    g_bezout := He.glo_ok X G (c.fact 1 (f := .glo "bezout") rfl)
    f_common_multiple := c.def_ 2 (d := d_common_multiple) rfl
    g_common_multiple := He.glo_ok X G (c.fact 2 (f := .glo "common_multiple") rfl)
    f_top_of := c.def_ 3 (d := d_top_of) rfl
    g_top_of := He.glo_ok X G (c.fact 3 (f := .glo "top_of") rfl)
    f_bottom_of := c.def_ 4 (d := d_bottom_of) rfl
    g_bottom_of := He.glo_ok X G (c.fact 4 (f := .glo "bottom_of") rfl)
    f_sign_of := c.def_ 5 (d := d_sign_of) rfl
    g_sign_of := He.glo_ok X G (c.fact 5 (f := .glo "sign_of") rfl)
    f_without_zeros := c.def_ 6 (d := d_without_zeros) rfl
    g_without_zeros := He.glo_ok X G (c.fact 6 (f := .glo "without_zeros") rfl)
    f_degree_of := c.def_ 7 (d := d_degree_of) rfl
    g_degree_of := He.glo_ok X G (c.fact 7 (f := .glo "degree_of") rfl)
    f_root_bound := c.def_ 8 (d := d_root_bound) rfl
    g_root_bound := He.glo_ok X G (c.fact 8 (f := .glo "root_bound") rfl)
    f_is_below := c.def_ 9 (d := d_is_below) rfl
    g_is_below := He.glo_ok X G (c.fact 9 (f := .glo "is_below") rfl)
    f_undone_modulo := c.def_ 10 (d := d_undone_modulo) rfl
    g_undone_modulo := He.glo_ok X G (c.fact 10 (f := .glo "undone_modulo") rfl)
    f_is_zero := c.def_ 11 (d := d_is_zero) rfl
    g_is_zero := He.glo_ok X G (c.fact 11 (f := .glo "is_zero") rfl)
    f_whole_row := c.def_ 12 (d := d_whole_row) rfl
    g_whole_row := He.glo_ok X G (c.fact 12 (f := .glo "whole_row") rfl)
    f_sign_of_difference := c.def_ 13 (d := d_sign_of_difference) rfl
    g_sign_of_difference := He.glo_ok X G (c.fact 13 (f := .glo "sign_of_difference") rfl)
    f_sign_at := c.def_ 14 (d := d_sign_at) rfl
    g_sign_at := He.glo_ok X G (c.fact 14 (f := .glo "sign_at") rfl)
    f_number_fits := c.def_ 15 (d := d_number_fits) rfl
    g_number_fits := He.glo_ok X G (c.fact 15 (f := .glo "number_fits") rfl)
    f_quotient := c.def_ 16 (d := d_quotient) rfl
    g_quotient := He.glo_ok X G (c.fact 16 (f := .glo "quotient") rfl)
    f_is_at_most := c.def_ 17 (d := d_is_at_most) rfl
    g_is_at_most := He.glo_ok X G (c.fact 17 (f := .glo "is_at_most") rfl)
    f_opened := c.def_ 18 (d := d_opened) rfl
    g_opened := He.glo_ok X G (c.fact 18 (f := .glo "opened") rfl)
    f_settled := c.def_ 19 (d := d_settled) rfl
    g_settled := He.glo_ok X G (c.fact 19 (f := .glo "settled") rfl)
    f_divided_modulo := c.def_ 20 (d := d_divided_modulo) rfl
    g_divided_modulo := He.glo_ok X G (c.fact 20 (f := .glo "divided_modulo") rfl)
    f_changes_at := c.def_ 21 (d := d_changes_at) rfl
    g_changes_at := He.glo_ok X G (c.fact 21 (f := .glo "changes_at") rfl)
    f_later_of := c.def_ 22 (d := d_later_of) rfl
    g_later_of := He.glo_ok X G (c.fact 22 (f := .glo "later_of") rfl)
    f_earlier_of := c.def_ 23 (d := d_earlier_of) rfl
    g_earlier_of := He.glo_ok X G (c.fact 23 (f := .glo "earlier_of") rfl)
    f_is_stretch := c.def_ 24 (d := d_is_stretch) rfl
    g_is_stretch := He.glo_ok X G (c.fact 24 (f := .glo "is_stretch") rfl)
    f_vector_fits := c.def_ 25 (d := d_vector_fits) rfl
    g_vector_fits := He.glo_ok X G (c.fact 25 (f := .glo "vector_fits") rfl)
    f_closed := c.def_ 26 (d := d_closed) rfl
    g_closed := He.glo_ok X G (c.fact 26 (f := .glo "closed") rfl)
    f_divided_by := c.def_ 27 (d := d_divided_by) rfl
    g_divided_by := He.glo_ok X G (c.fact 27 (f := .glo "divided_by") rfl)
    f_monic := c.def_ 28 (d := d_monic) rfl
    g_monic := He.glo_ok X G (c.fact 28 (f := .glo "monic") rfl)
    f_slope := c.def_ 29 (d := d_slope) rfl
    g_slope := He.glo_ok X G (c.fact 29 (f := .glo "slope") rfl)
    f_changes_between := c.def_ 30 (d := d_changes_between) rfl
    g_changes_between := He.glo_ok X G (c.fact 30 (f := .glo "changes_between") rfl)
    f_check_end := c.def_ 31 (d := d_check_end) rfl
    g_check_end := He.glo_ok X G (c.fact 31 (f := .glo "check_end") rfl)
    f_check_stretch := c.def_ 32 (d := d_check_stretch) rfl
    g_check_stretch := He.glo_ok X G (c.fact 32 (f := .glo "check_stretch") rfl)
    f_turned_rest_of := c.def_ 33 (d := d_turned_rest_of) rfl
    g_turned_rest_of := He.glo_ok X G (c.fact 33 (f := .glo "turned_rest_of") rfl)
    f_with_ends := c.def_ 34 (d := d_with_ends) rfl
    g_with_ends := He.glo_ok X G (c.fact 34 (f := .glo "with_ends") rfl)
    f_middle := c.def_ 35 (d := d_middle) rfl
    g_middle := He.glo_ok X G (c.fact 35 (f := .glo "middle") rfl)
    f_poly_fits := c.def_ 36 (d := d_poly_fits) rfl
    g_poly_fits := He.glo_ok X G (c.fact 36 (f := .glo "poly_fits") rfl)
    f_over_poly := c.def_ 37 (d := d_over_poly) rfl
    g_over_poly := He.glo_ok X G (c.fact 37 (f := .glo "over_poly") rfl)
    f_common_part := c.def_ 38 (d := d_common_part) rfl
    g_common_part := He.glo_ok X G (c.fact 38 (f := .glo "common_part") rfl)
    f_closed_all := c.def_ 39 (d := d_closed_all) rfl
    g_closed_all := He.glo_ok X G (c.fact 39 (f := .glo "closed_all") rfl)
    f_roots_between := c.def_ 40 (d := d_roots_between) rfl
    g_roots_between := He.glo_ok X G (c.fact 40 (f := .glo "roots_between") rfl)
    f_check_poly := c.def_ 41 (d := d_check_poly) rfl
    g_check_poly := He.glo_ok X G (c.fact 41 (f := .glo "check_poly") rfl)
    f_chain_of := c.def_ 42 (d := d_chain_of) rfl
    g_chain_of := He.glo_ok X G (c.fact 42 (f := .glo "chain_of") rfl)
    f_chain_paper := c.def_ 43 (d := d_chain_paper) rfl
    g_chain_paper := He.glo_ok X G (c.fact 43 (f := .glo "chain_paper") rfl)
    f_check_alone := c.def_ 44 (d := d_check_alone) rfl
    g_check_alone := He.glo_ok X G (c.fact 44 (f := .glo "check_alone") rfl)
    f_half_with_root := c.def_ 45 (d := d_half_with_root) rfl
    g_half_with_root := He.glo_ok X G (c.fact 45 (f := .glo "half_with_root") rfl)
    f_inner_of := c.def_ 46 (d := d_inner_of) rfl
    g_inner_of := He.glo_ok X G (c.fact 46 (f := .glo "inner_of") rfl)
    f_common_paper := c.def_ 47 (d := d_common_paper) rfl
    g_common_paper := He.glo_ok X G (c.fact 47 (f := .glo "common_paper") rfl)
    f_apart := c.def_ 48 (d := d_apart) rfl
    g_apart := He.glo_ok X G (c.fact 48 (f := .glo "apart") rfl)
    f_order_paper := c.def_ 49 (d := d_order_paper) rfl
    g_order_paper := He.glo_ok X G (c.fact 49 (f := .glo "order_paper") rfl)
    f_inner_other_than_0 := c.def_ 50 (d := d_inner_other_than_0) rfl
    g_inner_other_than_0 := He.glo_ok X G (c.fact 50 (f := .glo "inner_other_than_0") rfl)
    f_asked_chain := c.def_ 51 (d := d_asked_chain) rfl
    g_asked_chain := He.glo_ok X G (c.fact 51 (f := .glo "asked_chain") rfl)
    f_sign_answer := c.def_ 52 (d := d_sign_answer) rfl
    g_sign_answer := He.glo_ok X G (c.fact 52 (f := .glo "sign_answer") rfl)
    f_root_order_answer := c.def_ 53 (d := d_root_order_answer) rfl
    g_root_order_answer := He.glo_ok X G (c.fact 53 (f := .glo "root_order_answer") rfl)
    f_root_stretches := c.def_ 54 (d := d_root_stretches) rfl
    g_root_stretches := He.glo_ok X G (c.fact 54 (f := .glo "root_stretches") rfl)
    f_roots_answer := c.def_ 55 (d := d_roots_answer) rfl
    g_roots_answer := He.glo_ok X G (c.fact 55 (f := .glo "roots_answer") rfl)
    f_alone_answer := c.def_ 56 (d := d_alone_answer) rfl
    g_alone_answer := He.glo_ok X G (c.fact 56 (f := .glo "alone_answer") rfl)
    f__law_dice := c.def_ 57 (d := d__law_dice) rfl
    g__law_dice := He.glo_ok X G (c.fact 57 (f := .glo "_law_dice") rfl)
    f__law_roll := c.def_ 58 (d := d__law_roll) rfl
    g__law_roll := He.glo_ok X G (c.fact 58 (f := .glo "_law_roll") rfl)
    f__law_gcd := c.def_ 59 (d := d__law_gcd) rfl
    g__law_gcd := He.glo_ok X G (c.fact 59 (f := .glo "_law_gcd") rfl)
    f__law_pick := c.def_ 60 (d := d__law_pick) rfl
    g__law_pick := He.glo_ok X G (c.fact 60 (f := .glo "_law_pick") rfl)
    f__law_fraction := c.def_ 61 (d := d__law_fraction) rfl
    g__law_fraction := He.glo_ok X G (c.fact 61 (f := .glo "_law_fraction") rfl)
    f__law_plus := c.def_ 62 (d := d__law_plus) rfl
    g__law_plus := He.glo_ok X G (c.fact 62 (f := .glo "_law_plus") rfl)
    f__law_ends_right := c.def_ 63 (d := d__law_ends_right) rfl
    g__law_ends_right := He.glo_ok X G (c.fact 63 (f := .glo "_law_ends_right") rfl)
    f__law_rest_right := c.def_ 64 (d := d__law_rest_right) rfl
    g__law_rest_right := He.glo_ok X G (c.fact 64 (f := .glo "_law_rest_right") rfl)
    f_law := c.def_ 65 (d := d_law) rfl
    g_law := He.glo_ok X G (c.fact 65 (f := .glo "law") rfl)
    f__law_word := c.def_ 66 (d := d__law_word) rfl
    g__law_word := He.glo_ok X G (c.fact 66 (f := .glo "_law_word") rfl)
    c_SIXTY_DIGITS := He.int_ok X G (c.fact 71 (f := .int "SIXTY_DIGITS" 1000000000000000000000000000000000000000000000000000000000000) rfl)
    c_NOTHING := ⟨He.glo_ok X G (c.fact 72 (f := .glo "NOTHING") rfl), x3⟩
    c_MAX_DEGREE := He.int_ok X G (c.fact 73 (f := .int "MAX_DEGREE" 12) rfl)
    c_ONE := ⟨He.glo_ok X G (c.fact 74 (f := .glo "ONE") rfl), x4⟩
    n_abs := He.free_ok X G (c.fact 75 (f := .free "abs") rfl)
    n_all := He.free_ok X G (c.fact 76 (f := .free "all") rfl)
    n_bool := He.free_ok X G (c.fact 77 (f := .free "bool") rfl)
    n_enumerate := He.free_ok X G (c.fact 78 (f := .free "enumerate") rfl)
    n_int := He.free_ok X G (c.fact 79 (f := .free "int") rfl)
    n_isinstance := He.free_ok X G (c.fact 80 (f := .free "isinstance") rfl)
    n_len := He.free_ok X G (c.fact 81 (f := .free "len") rfl)
    n_list := He.free_ok X G (c.fact 82 (f := .free "list") rfl)
    n_max := He.free_ok X G (c.fact 83 (f := .free "max") rfl)
    n_min := He.free_ok X G (c.fact 84 (f := .free "min") rfl)
    n_range := He.free_ok X G (c.fact 85 (f := .free "range") rfl)
    n_repr := He.free_ok X G (c.fact 86 (f := .free "repr") rfl)
    n_reversed := He.free_ok X G (c.fact 87 (f := .free "reversed") rfl)
    n_tuple := He.free_ok X G (c.fact 88 (f := .free "tuple") rfl)
    b_gcd := bul_ok X G x0 0
    e_InvalidPoly := ⟨(He.glo_ok X G (c.fact 67 (f := .glo "InvalidPoly") rfl)), He.exc_ok (c.fact 89 (f := .exc "InvalidPoly") rfl)⟩
    x_InvalidNumber := exi_ok (He.glo_ok X G (c.fact 68 (f := .glo "InvalidNumber") rfl)) x1 (c.def_ 67 (d := d_InvalidNumber_init) rfl) rfl rfl rfl
    e_InvalidOperation := ⟨(He.glo_ok X G (c.fact 69 (f := .glo "InvalidOperation") rfl)), He.exc_ok (c.fact 90 (f := .exc "InvalidOperation") rfl)⟩
    x_Refused := exi_ok (He.glo_ok X G (c.fact 70 (f := .glo "Refused") rfl)) x2 (c.def_ 68 (d := d_Refused_init) rfl) rfl rfl rfl
    m_InvalidPoly_InvalidPoly := He.exm_ok (c.fact 91 (f := .exm "InvalidPoly" "InvalidPoly" true) rfl)
    m_InvalidPoly_InvalidNumber := He.exm_ok (c.fact 92 (f := .exm "InvalidPoly" "InvalidNumber" false) rfl)
    m_InvalidPoly_InvalidOperation := He.exm_ok (c.fact 93 (f := .exm "InvalidPoly" "InvalidOperation" false) rfl)
    m_InvalidPoly_Refused := He.exm_ok (c.fact 94 (f := .exm "InvalidPoly" "Refused" false) rfl)
    m_InvalidNumber_InvalidPoly := He.exm_ok (c.fact 95 (f := .exm "InvalidNumber" "InvalidPoly" false) rfl)
    m_InvalidNumber_InvalidNumber := He.exm_ok (c.fact 96 (f := .exm "InvalidNumber" "InvalidNumber" true) rfl)
    m_InvalidNumber_InvalidOperation := He.exm_ok (c.fact 97 (f := .exm "InvalidNumber" "InvalidOperation" false) rfl)
    m_InvalidNumber_Refused := He.exm_ok (c.fact 98 (f := .exm "InvalidNumber" "Refused" false) rfl)
    m_InvalidOperation_InvalidPoly := He.exm_ok (c.fact 99 (f := .exm "InvalidOperation" "InvalidPoly" false) rfl)
    m_InvalidOperation_InvalidNumber := He.exm_ok (c.fact 100 (f := .exm "InvalidOperation" "InvalidNumber" false) rfl)
    m_InvalidOperation_InvalidOperation := He.exm_ok (c.fact 101 (f := .exm "InvalidOperation" "InvalidOperation" true) rfl)
    m_InvalidOperation_Refused := He.exm_ok (c.fact 102 (f := .exm "InvalidOperation" "Refused" false) rfl)
    m_Refused_InvalidPoly := He.exm_ok (c.fact 103 (f := .exm "Refused" "InvalidPoly" false) rfl)
    m_Refused_InvalidNumber := He.exm_ok (c.fact 104 (f := .exm "Refused" "InvalidNumber" false) rfl)
    m_Refused_InvalidOperation := He.exm_ok (c.fact 105 (f := .exm "Refused" "InvalidOperation" false) rfl)
    m_Refused_Refused := He.exm_ok (c.fact 106 (f := .exm "Refused" "Refused" true) rfl)
    dis := x5 }
theorem tabs0 {K : PySem.W.Frag} {H : Hp} (h : ∀ p ∈ tfs.map (He.cT K), H p.2 = some (.tbl #[])) : LamX.Tabs (Ts K) H := by
  intro p hp
  simp only [Ts, List.mem_cons, List.not_mem_nil, or_false] at hp
  rcases hp with rfl | rfl | rfl
  · exact LamX.TabS.nil (h _ (List.mem_map.mpr ⟨("_law_ends_right", none), by simp [tfs], rfl⟩))
  · exact LamX.TabS.nil (h _ (List.mem_map.mpr ⟨("_law_rest_right", none), by simp [tfs], rfl⟩))
  · exact LamX.TabS.nil (h _ (List.mem_map.mpr ⟨("law", none), by simp [tfs], rfl⟩))
end L2.Z
open PySem PySem.W PySem.Calls PyProof.Rows
theorem PySem.Challenge.cw_zeroorone_k37_errors_of_real_roots_holds : PySem.Challenge.rw_zeroorone_k37_errors_of_real_roots.Holds := by
  w_on; o_law
  refine HandSHeadRun.head_imp (r := (OpenLaw.row PySem.Challenge.rw_zeroorone_k37_errors_of_real_roots)) (q := view (OpenLaw.row PySem.Challenge.rw_zeroorone_k37_errors_of_real_roots).prog [0, 84]) (H := L2.Z.hk) (ob := L2.Z.obz) (loose := L2.Z.looseL) (d := HandSHeadRun.topDef (OpenLaw.row PySem.Challenge.rw_zeroorone_k37_errors_of_real_roots).prog 84) (kwd := []) L2.Z.obz_eq
    L2.Z.run (by kernel_rfl) (by kernel_rfl) (by kernel_rfl) (by rfl) (by first | assumption | decide +kernel) (by decide +kernel) ⟨rfl, rfl, rfl, rfl, rfl, by decide +kernel⟩ ?hw ?hc
  case hw => w_witness2
  case hc =>
    refine L2.Z.walk_ofG (l := PySem.Challenge.rw_zeroorone_k37_errors_of_real_roots) (n := 63) (k := 14) (x := "script") (CX := fun _ => L2.CX0) rfl (by decide) (by kernel_rfl) ⟨rfl, by decide, by decide⟩ ?F (fun _ _ _ _ _ z => z)
    intro w mg fa h Y G hmg0
    obtain ⟨K, KX, S⟩ := Y
    have T := L2.Z.tx_of KX G S
    have hmg : mg ("law" : PySem.Str) = some (.ref fa) := by
      have e : (HandSHeadRun.topDef (OpenLaw.row PySem.Challenge.rw_zeroorone_k37_errors_of_real_roots).prog 84).name = ("law" : PySem.Str) := by kernel_rfl
      rw [← e]
      exact hmg0
    have e := hmg.symm.trans T.g_law
    cases e
    obtain ⟨fd, F⟩ := T.f_law
    have hb := L2.FunD.bindsA (ps := ["script"]) F fun _ _ _ _ _ _ us hl => match us, hl with | [_], _ => rfl
    refine ⟨K, KX, fd, L2.Z.tfs.map (He.cT K), L2.Z.sp_law K, fun p hp => ?_, fun p hp => ?_, fun p hp => ?_, fun s v => hb s [v] rfl, fun H a ns hl _ hT hS => ⟨a, ns, rfl, hS, hl, L2.Z.tabs0 hT, fun _ => rfl⟩, fun base _ _ TB => L2.Z.okF_law T F fun p hp => TB _ (List.mem_map_of_mem hp)⟩
    · obtain ⟨q, hq, rfl⟩ := List.mem_map.mp hp
      exact S.empty q hq
    · obtain ⟨q, hq, rfl⟩ := List.mem_map.mp hp
      exact S.out q hq
    · obtain ⟨q, hq, rfl⟩ := List.mem_map.mp hp
      exact PySem.W.codeHd_of_K KX (S.hd q hq)
