import PyProof.Rows.All
import Wide.All
import OpenK.AllK
import Wide.FinOn
import HandS.ForMost
import HandS.Wide
import HandS.Gcd
import HandS.More
import HandS.IsInst
import HandS.Defaults
import HandS.SortInts
import HandS.Zip
import HandS.TupAny
import HandS.Conv
import HandS.Style
import HandS.RaiseMore
import HandS.Head0
import HandS.Head1
import HandS.Head2
import HandS.Head3
import HandS.HeadEnd
import HandS.HeadHook1
import HandS.HeadHook2
import HandS.Small
import KE.GoesEnum
import PySem.Challenge.RW_zeroorone_k02_whole_grounds_and_numbers
set_option Elab.async false
set_option linter.all false
set_option maxRecDepth 100000
set_option maxHeartbeats 2000000
namespace L2.Z
open PySem PySem.Spec PyProof.Rows
abbrev rAdd : R2 := rI0 fun i j => .int (i + j)
abbrev rSub : R2 := rI0 fun i j => .int (i - j)
abbrev rModU : R2 := rI (fun _ j => 0 < j) fun i j => .int (i % j)
abbrev rDivU : R2 := rI CDivW fun i j => .int (i / j)
abbrev rPowU : R2 := rI CPow fun i j => .int (i ^ j.toNat)
abbrev rMulU : R2 := rI (fun i j => CMul i j ∨ CMulW i j) fun i j => .int (i * j)
abbrev rNeg : V → Hp → VK → Prop := rU fun i => .int (-i)
/-- // by any divisor but 0 below 2 ^ 9000 -/
def CDivZ (_ j : Int) : Prop := j ≠ 0 ∧ j.natAbs.log2 < 9000
abbrev rDivZ : R2 := rI CDivZ fun i j => .int (i.fdiv j)
theorem op_fdivZ {X : Cx} : OpR X (binaryOp .FloorDiv) rDivZ := opI fun i j _ _ _ _ _ hc q => floordiv_int hc.1 q (.inl (PyProof.noPylong_of_log2 hc.2))
abbrev rStrI : List V → Hp → VK → Prop := fun xs H Q => ∃ i : Int, xs = [.int i] ∧ i.natAbs.log2 < 1920 ∧ Q (.str (toString i)) H
/-- repr of plain values -/
def tTru (K : PySem.W.Frag) (te : TE) : TT := fun σ H Qt => te σ H fun x H1 => ∃ k, TruV K x H1 k ∧ Qt k H1
theorem pt_tru {X : Cx} {K : PySem.W.Frag} {a : PySem.Expr} {ta : TE} (hk : X.K = K) (h : PE X a ta) (he : ∀ whole : PySem.Sem PySem.Value, PySem.isTrue a X.env whole = do
          let v ← whole
          PySem.standAt a.pos
          PySem.holding [v] (PySem.truthy v)) : PT X a (tTru K ta) := by
  subst hk
  exact pt_truth h he
def rMinT : List V → Hp → VK → Prop := fun vs H Q => ∃ (a : Addr) (ns : List Int), vs = [.ref a] ∧ H a = some (.tup (ns.map V.int)) ∧ 0 < ns.length ∧ ∀ m, m ∈ ns → (∀ y ∈ ns, m ≤ y) → Q (.int m) H
theorem vals_ints : ∀ {ns : List Int} {its : List Value}, Vals (ns.map V.int) its → its.length = ns.length ∧ ∀ (i : Nat) (v : Value), its[i]? = some v → ∃ t, v = Value.int (ns.getD i 0) t := by
  intro ns
  induction ns with
  | nil => intro its h; cases h; exact ⟨rfl, fun i v e => by simp at e⟩
  | cons n r ih =>
    intro its h
    cases h with
    | cons h1 h2 =>
      obtain ⟨l, g⟩ := ih h2
      refine ⟨by simp [l], fun i v e => ?_⟩
      cases i with
      | zero =>
        simp only [List.getElem?_cons_zero, Option.some.injEq] at e
        subst e
        obtain ⟨t, e⟩ := h1
        exact ⟨t, by simpa using e⟩
      | succ i =>
        rw [List.getElem?_cons_succ] at e
        obtain ⟨t, e⟩ := g i v e
        exact ⟨t, by simpa using e⟩
theorem cr_minT {X : Cx} (hc : X.calm = true) : CallR X (.builtin "min") rMinT := by
  intro pins s σ H xs us Q I r h
  obtain ⟨a, ns, rfl, hT, hn, hq⟩ := h
  obtain ⟨u, rfl, r1⟩ := vals1 r
  cases (show u = Value.ref a from r1)
  obtain ⟨its, hv, hI, _⟩ := I.tuple (.inl (.inl hT))
  obtain ⟨hl, hg⟩ := vals_ints hv
  refine PySem.call_min_walk ?_
  refine PySem.wpAny_pyIter_tuple (items := its.toArray) ?_ ?_
  · exact hI
  · obtain ⟨o, ho, hcl, hdt⟩ := hI
    have hlt : a < s.heap.objs.size := by
      refine Nat.lt_of_not_le fun c => ?_
      have : s.heap.get? a = none := by
        simp [PySem.Heap.get?, c]
      rw [ho] at this
      cases this
    have hne : a ≠ s.heap.objs.size := Nat.ne_of_lt hlt
    have push_old : ∀ (b : Addr) (u x : Obj), s.heap.get? b = some u → (s.heap.push x).get? b = some u := fun b u x hb => by
      have hlb : b < s.heap.objs.size := by
        refine Nat.lt_of_not_le fun c => ?_
        have : s.heap.get? b = none := by simp [PySem.Heap.get?, c]
        rw [hb] at this
        cases this
      simp only [PySem.Heap.get?, PySem.Heap.push] at hb ⊢
      rw [Array.getElem?_push, if_neg (Nat.ne_of_lt hlb)]
      exact hb
    refine ⟨_, _, _, _, _, _, _, rfl, PySem.Walks.tuple ?_ s.heap.objs.size a hne its.toArray, ⟨⟨{ cls := Value.type "tuple_iterator", data := Data.fields #[Value.ref a, Value.int 0 0] }, ?_, rfl, rfl⟩, ⟨o, push_old a o _ ho, hcl, hdt⟩⟩, ?_, ?_, PySem.CmpOf.ints_lt (fun i => ns.getD i 0) (fun i v e => hg i v (by simpa using e)), fun v h' tk hP hk => ?_⟩
    · exact (I.ok.hd hc)
    · simp [PySem.Heap.get?, PySem.Heap.push]
    · intro b hb
      have : (s.heap.push { cls := Value.type "tuple_iterator", data := Data.fields #[Value.ref a, Value.int 0 0] }).objs.size = s.heap.objs.size + 1 := by simp [PySem.Heap.push]
      show b < (s.heap.push { cls := Value.type "tuple_iterator", data := Data.fields #[Value.ref a, Value.int 0 0] }).objs.size
      rw [this]
      simp only [List.mem_cons, List.not_mem_nil, or_false] at hb
      rcases hb with rfl | rfl
      · exact Nat.lt_succ_self _
      · exact Nat.lt_succ_of_lt hlt
    · simp only [List.size_toArray]; omega
    · obtain ⟨b1, b2⟩ := PySem.argBest_lt (fun i => ns.getD i 0) (its.toArray.size - 1)
      generalize argBest (fun i j => decide (ns.getD i 0 < ns.getD j 0)) (its.toArray.size - 1) = k at *
      simp only [List.size_toArray] at b1 b2
      obtain ⟨t, rfl⟩ := hg k v (by simpa using hP)
      have hk1 : k < ns.length := by omega
      refine ⟨.int (ns.getD k 0), H, I.kept (h' := h') (t' := tk) (fun b u hb => hk b u ?_ (push_old b u _ hb)), ⟨t, rfl⟩, hq _ ?_ fun y hy => ?_⟩
      · intro c
        rw [List.mem_singleton] at c
        subst c
        simp [PySem.Heap.get?] at hb
      · rw [List.getD_eq_getElem?_getD, List.getElem?_eq_getElem hk1]
        exact List.getElem_mem hk1
      · obtain ⟨j, hj, rfl⟩ := List.getElem_of_mem hy
        have := b2 j (by omega)
        rw [List.getD_eq_getElem?_getD (i := j), List.getElem?_eq_getElem hj] at this
        exact this
def rSortedDI : List V → Hp → VK → Prop := fun xs H Q => ∃ (a : Addr) (kvs : List (Key × V)) (ks : List Int), xs = [.ref a] ∧ Rd H a (.dK kvs) ∧ kvs.map (·.1) = ks.map Sum.inl ∧ ks.length < 64 ∧ ∀ (ys : List Int) (p : Addr), ys.Perm ks → ys.Pairwise (· ≤ ·) → H p = none → Q (.ref p) (upd H p (.lst (ys.map V.int)))
theorem cr_sortedDI {X : Cx} (hc : X.calm = true) : CallR X (.builtin "sorted") rSortedDI := call_sortedDI hc
def rReprU : List V → Hp → VK → Prop := fun xs H Q => (∃ i : Int, xs = [.int i] ∧ i.natAbs.log2 < 1920 ∧ Q (.str (toString i)) H) ∨ (∃ b : Bool, xs = [.bl b] ∧ Q (.str (if b then "True" else "False")) H) ∨ (xs = [.non] ∧ Q (.str "None") H)
theorem cr_reprU {X : Cx} : CallR X (.builtin "repr") rReprU := by
  intro pins s σ H xs us Q I r h
  rcases h with h | ⟨b, e, q⟩ | ⟨e, q⟩
  · exact SkE.call_repr_int pins s σ H xs us Q I r h
  · subst e
    obtain ⟨u, e1, r1⟩ := vals1 r
    subst e1
    cases (show u = Value.bool b from r1)
    exact PySem.P.repr_of_bool ⟨.str _, H, I.tok _, ⟨_, rfl⟩, q⟩
  · subst e
    obtain ⟨u, e1, r1⟩ := vals1 r
    subst e1
    cases (show u = Value.none from r1)
    exact PySem.P.repr_of_none ⟨.str _, H, I.tok _, ⟨_, rfl⟩, q⟩
abbrev rLtI : R2 := rI0 fun i j => .bl (decide (i < j))
abbrev rLeI : R2 := rI0 fun i j => .bl (decide (i ≤ j))
abbrev rGtI : R2 := rI0 fun i j => .bl (decide (j < i))
abbrev rGeI : R2 := rI0 fun i j => .bl (decide (j ≤ i))
abbrev rLenU (K : PySem.W.Frag) : List V → Hp → VK → Prop := fun xs H Q => ∃ p ys, xs = [.ref p] ∧ (SqL K H p ys ∨ SqT K H p ys) ∧ Q (.int ys.length) H
abbrev rAbs : List V → Hp → VK → Prop := fun xs H Q => ∃ i : Int, xs = [.int i] ∧ Q (.int (if i < 0 then -i else i)) H
abbrev rMax2 : List V → Hp → VK → Prop := fun xs H Q => ∃ i j : Int, xs = [.int i, .int j] ∧ Q (.int (if j > i then j else i)) H
abbrev rMin2 : List V → Hp → VK → Prop := fun xs H Q => ∃ i j : Int, xs = [.int i, .int j] ∧ Q (.int (if j < i then j else i)) H
abbrev rInt1 : List V → Hp → VK → Prop := fun xs H Q => (∃ i, xs = [.int i] ∧ Q (.int i) H) ∨ ∃ k, xs = [.bl k] ∧ Q (.int (if k then 1 else 0)) H
abbrev rTupOf (K : PySem.W.Frag) : List V → Hp → VK → Prop := fun xs H Q => ∃ p ys, xs = [.ref p] ∧ ((SqL K H p ys ∧ ∀ l, H l = none → Q (.ref l) (upd H l (.tup ys))) ∨ (SqT K H p ys ∧ Q (.ref p) H))
abbrev rListOf (K : PySem.W.Frag) : List V → Hp → VK → Prop := fun xs H Q => ∃ p ys, xs = [.ref p] ∧ (SqL K H p ys ∨ SqT K H p ys) ∧ ∀ l, H l = none → Q (.ref l) (upd H l (.lst ys))
abbrev rIxA (K : PySem.W.Frag) : R2 := fun x y H Q => rIxL K x y H Q ∨ rIxT K x y H Q
theorem ix_lt {X : Cx} : IxR X (rIxA X.K) := ix_list.or ix_tup
theorem op_mulU {X : Cx} : OpR X (binaryOp .Mult) rMulU := opI fun _ _ _ _ _ _ _ hc q => mul_int q (hc.elim CMul.ok CMulW.ok)
theorem hu64_of {A : Around} {k : Nat} (hr : Room k A) : A.units + 64 < cLine := by have := hr.un; omega
def Okk (P : Program) (w : World) (K : PySem.W.Frag) (mg : Str → Option Value) (base : Heap) (k : Nat) (x : Str) (ps : List Str) (sp : Sp) : Prop :=
  ∃ fd, FnOk P w K mg base CX0 k (He.ga K x) fd ps sp ∧ Binds K fd ps [] ∧ mg x = some (.ref (He.ga K x)) ∧ PySem.W.keepIn K (.ref (He.ga K x)) = true
def LcW (J : It) (H1 : Hp) (g : TG) (tt : TT) (te : TE) (vs : List Nat) (σ : St) (Q : VK) : Prop := tLc (fun _ _ R => R J H1) g tt te vs σ H1 Q
def ForW (J : It) (H1 : Hp) (g : TG) (tb : TS) (D : Ends) (σ : St) : Prop := tFor (fun _ _ R => R J H1) g tb D σ H1
section
variable {σ : St} {H : Hp} {Q : VK} {v x y : V} {ta tb tc te : TE} {r r' : R2} {t u : TT} {n : Nat} {D : Ends} {s s' : TS} {g : TG} {K : PySem.W.Frag} {tl : TA} {QA : List V → Hp → Prop} {QT : Bool → Hp → Prop}
theorem z_var0 : tVar 0 (some v :: σ) H Q = Q v H := propext ⟨fun ⟨_, h, q⟩ => by cases h; exact q, fun q => ⟨_, rfl, q⟩⟩
theorem z_varS {o : Option V} : tVar (n + 1) (o :: σ) H Q = tVar n σ H Q := rfl
theorem z_C : tC v σ H Q = Q v H := rfl
theorem z_op : tOp r ta tb σ H Q = ta σ H fun x H1 => tb σ H1 fun y H2 => r x y H2 Q := rfl
theorem z_un {f : V → Hp → VK → Prop} : tUn f ta σ H Q = ta σ H fun x H1 => f x H1 Q := rfl
theorem z_I0 {f : Int → Int → V} {i j : Int} : rI0 f (.int i) (.int j) H Q = Q (f i j) H := propext ⟨fun ⟨_, _, e1, e2, q⟩ => by cases e1; cases e2; exact q, fun q => ⟨_, _, rfl, rfl, q⟩⟩
theorem z_I {C : Int → Int → Prop} {f : Int → Int → V} {i j : Int} : rI C f (.int i) (.int j) H Q = (C i j ∧ Q (f i j) H) := propext ⟨fun ⟨_, _, e1, e2, q⟩ => by cases e1; cases e2; exact q, fun q => ⟨_, _, rfl, rfl, q⟩⟩
theorem z_U {f : Int → V} {i : Int} : rU f (.int i) H Q = Q (f i) H := propext ⟨fun ⟨_, e1, q⟩ => by cases e1; exact q, fun q => ⟨_, rfl, q⟩⟩
theorem z_eqI {i j : Int} : rEq (.int i) (.int j) H Q = Q (.bl (decide (i = j))) H := by
  have e : decide (V.int i = V.int j) = decide (i = j) := by simp
  unfold rEq; rw [e]; exact propext ⟨fun h => h.2, fun h => ⟨rfl, h⟩⟩
theorem z_neI {i j : Int} : rNe (.int i) (.int j) H Q = Q (.bl (!decide (i = j))) H := by
  have e : decide (V.int i = V.int j) = decide (i = j) := by simp
  unfold rNe; rw [e]; exact propext ⟨fun h => h.2, fun h => ⟨rfl, h⟩⟩
theorem z_bl {b : Bool} {p : Bool → Prop} : (∃ k, V.bl b = V.bl k ∧ p k) = p b := propext ⟨fun ⟨_, e, q⟩ => by cases e; exact q, fun q => ⟨_, rfl, q⟩⟩
theorem z_test : tTest te σ H QT = te σ H fun x H' => ∃ k, x = .bl k ∧ QT k H' := rfl
theorem z_B : tB te σ H QT = te σ H fun x H' => ∃ k, x = .bl k ∧ QT k H' := rfl
theorem z_and : tAnd t u σ H QT = t σ H fun c H1 => if c = true then u σ H1 QT else QT false H1 := rfl
theorem z_or : tOr t u σ H QT = t σ H fun c H1 => if c = true then QT true H1 else u σ H1 QT := rfl
theorem z_not : tNot t σ H QT = t σ H fun c H1 => QT (!c) H1 := rfl
theorem z_andV : tAndV ta tb σ H Q = ta σ H fun x H1 => ∃ c, x = .bl c ∧ if c = true then tb σ H1 Q else Q (.bl false) H1 := rfl
theorem z_orV : tOrV ta tb σ H Q = ta σ H fun x H1 => ∃ c, x = .bl c ∧ if c = true then Q (.bl true) H1 else tb σ H1 Q := rfl
theorem z_notV : tNotV ta σ H Q = ta σ H fun x H1 => ∃ c, x = .bl c ∧ Q (.bl (!c)) H1 := rfl
theorem z_if : tIf t ta tb σ H Q = t σ H fun c H1 => if c = true then ta σ H1 Q else tb σ H1 Q := rfl
theorem z_ifS : tIfS t s s' D σ H = t σ H fun b H1 => if b = true then s D σ H1 else s' D σ H1 := rfl
theorem z_seq : tSeq s s' D σ H = s { D with nx := s' D } σ H := rfl
theorem z_next : tNext D σ H = D.nx σ H := rfl
theorem z_ret : tRet te D σ H = te σ H D.rt := rfl
theorem z_retN : tRetN D σ H = D.rt .non H := rfl
theorem z_asg : tAsg te g D σ H = te σ H fun x H1 => g x σ H1 D.nx := rfl
theorem z_gname {Qg : St → Hp → Prop} : gName n v σ H Qg = Qg (σ.set n (some v)) H := rfl
theorem z_drop : tDrop te D σ H = te σ H fun _ H1 => D.nx σ H1 := rfl
theorem z_nil : tNil σ H QA = QA [] H := rfl
theorem z_cons : tCons te tl σ H QA = te σ H fun x H1 => tl σ H1 fun xs H2 => QA (x :: xs) H2 := rfl
theorem z_call {sp : Sp} {E : XK} : tCall sp [] E tl σ H Q = tl σ H fun vs H1 => sp vs H1 Q E := by unfold tCall; simp only [List.append_nil]
theorem z_CB {f : List V → Hp → VK → Prop} : tCB f tl σ H Q = tl σ H fun vs H1 => f vs H1 Q := rfl
theorem z_par {i j : Nat} : tPar i j tl D σ H = tl σ H fun vs H1 => ∃ v w, vs = [v, w] ∧ D.nx ((σ.set i (some v)).set j (some w)) H1 := rfl
theorem z_pair {v w : V} {p : V → V → Prop} : (∃ a b, [v, w] = [a, b] ∧ p a b) = p v w := propext ⟨fun ⟨_, _, e, q⟩ => by cases e; exact q, fun q => ⟨_, _, rfl, q⟩⟩
theorem z_aug0 {ti : TIp} {σ' : St} {i : Nat} : tAug i te ti D σ H = ∃ x, σ[i]? = some (some x) ∧ te σ H fun y H1 => ti x y H1 fun z H2 => D.nx (σ.set i (some z)) H2 := rfl
theorem z_ipI {f : Int → Int → Int} {i j : Int} : ipI f (.int i) (.int j) H Q = Q (.int (f i j)) H := propext ⟨fun ⟨_, _, e1, e2, q⟩ => by cases e1; cases e2; exact q, fun q => ⟨_, _, rfl, rfl, q⟩⟩
theorem z_abs {i : Int} : rAbs [.int i] H Q = Q (.int (if i < 0 then -i else i)) H := propext ⟨fun ⟨_, e1, q⟩ => by cases e1; exact q, fun q => ⟨_, rfl, q⟩⟩
theorem z_max {i j : Int} : rMax2 [.int i, .int j] H Q = Q (.int (if j > i then j else i)) H := propext ⟨fun ⟨_, _, e1, q⟩ => by cases e1; exact q, fun q => ⟨_, _, rfl, q⟩⟩
theorem z_min {i j : Int} : rMin2 [.int i, .int j] H Q = Q (.int (if j < i then j else i)) H := propext ⟨fun ⟨_, _, e1, q⟩ => by cases e1; exact q, fun q => ⟨_, _, rfl, q⟩⟩
theorem z_int {i : Int} : rInt1 [.int i] H Q = Q (.int i) H := by
  apply propext
  constructor
  · intro h
    rcases h with ⟨_, e, q⟩ | ⟨_, e, _⟩
    · cases e; exact q
    · cases e
  · intro q
    exact Or.inl ⟨_, rfl, q⟩
theorem z_intB {b : Bool} : rInt1 [.bl b] H Q = Q (.int (if b then 1 else 0)) H := by
  apply propext
  constructor
  · intro h
    rcases h with ⟨_, e, _⟩ | ⟨_, e, q⟩
    · cases e
    · cases e; exact q
  · intro q
    exact Or.inr ⟨_, rfl, q⟩
theorem z_gcd {i j : Int} : rGcd [.int i, .int j] H Q = Q (.int ((Nat.gcd i.natAbs j.natAbs : Nat) : Int)) H := propext ⟨fun ⟨_, _, e, q⟩ => by cases e; exact q, fun q => ⟨_, _, rfl, q⟩⟩
theorem z_tup : tTup tl σ H Q = tl σ H fun xs H1 => xs.length ≤ sizeLine ∧ ∀ p, H1 p = none → Q (.ref p) (upd H1 p (.tup xs)) := rfl
theorem z_lst : tLst tl σ H Q = tl σ H fun xs H1 => xs.length ≤ sizeLine ∧ ∀ p, H1 p = none → Q (.ref p) (upd H1 p (.lst xs)) := rfl
theorem z_chain : tChain r r' ta tb tc σ H Q = ta σ H fun x H1 => tb σ H1 fun y H2 => r x y H2 fun z H3 => ∃ k, z = .bl k ∧ (if k = true then tc σ H3 fun w' H4 => r' y w' H4 Q else Q (.bl false) H3) := rfl
theorem z_bm {T : String} {f : V → List V → Hp → VK → Prop} {to : TE} : tBM K T f to tl σ H Q = to σ H fun x H1 => tyV K T x H1 ∧ tl σ H1 fun xs H2 => f x xs H2 Q := rfl
theorem z_bm0 {T : String} {f : V → List V → Hp → VK → Prop} {to : TE} : tBM0 K T f to σ H Q = to σ H fun x H1 => tyV K T x H1 ∧ f x [] H1 Q := rfl
theorem tyL {p : Addr} {xs : List V} (h : H p = some (.lst xs)) : tyV K "list" (.ref p) H := .inl ⟨rfl, _, .inl (.inl h)⟩
theorem z_gtup {m : Nat} {a : Addr} {gs : TGs} {Qg : St → Hp → Prop} : gTup K m gs (.ref a) σ H Qg = ∃ xs, SqT K H a xs ∧ xs.length = m ∧ gs xs σ H Qg := propext ⟨fun ⟨_, xs, e, h⟩ => by cases e; exact ⟨xs, h⟩, fun ⟨xs, h⟩ => ⟨a, xs, rfl, h⟩⟩
theorem z_gcons {gs : TGs} {r : List V} {Qg : St → Hp → Prop} : gCons g gs (v :: r) σ H Qg = g v σ H fun σ' H' => gs r σ' H' Qg := propext ⟨fun ⟨_, _, e, h⟩ => by cases e; exact h, fun h => ⟨v, r, rfl, h⟩⟩
theorem z_gnil {Qg : St → Hp → Prop} : gNil [] σ H Qg = Qg σ H := propext ⟨fun h => h.2, fun h => ⟨rfl, h⟩⟩
theorem z_yes : tYes σ H QT = QT true H := rfl
theorem z_wipe0 : wipe σ [] = σ := rfl
theorem z_wipeS {i : Nat} {is : List Nat} : wipe σ (i :: is) = (wipe σ is).set i none := rfl
theorem z_itup {R : It → Hp → Prop} : iTup K te σ H R = te σ H fun x H1 => ∃ a, x = .ref a ∧ (∃ xs, SqT K H1 a xs) ∧ R (Itt K a) H1 := rfl
theorem z_ilist {R : It → Hp → Prop} : iList K te σ H R = te σ H fun x H1 => ∃ a, x = .ref a ∧ (∃ xs, SqL K H1 a xs) ∧ R (Itl K a) H1 := rfl
theorem z_irng1 {R : It → Hp → Prop} : iRng1 tl σ H R = tl σ H fun vs H1 => ∃ j : Int, vs = [.int j] ∧ -(2 ^ 62) ≤ j ∧ j < 2 ^ 62 ∧ R (Itr 0 j.toNat) H1 := rfl
theorem z_irng2 {R : It → Hp → Prop} : iRng2 tl σ H R = tl σ H fun vs H1 => ∃ i j : Int, vs = [.int i, .int j] ∧ (-(2 ^ 62) ≤ i ∧ i < 2 ^ 62 ∧ -(2 ^ 62) ≤ j ∧ j < 2 ^ 62) ∧ R (Itr i (j - i).toNat) H1 := rfl
theorem z_lc {wi : TI} {vs : List Nat} : tLc wi g t te vs σ H Q = wi σ H fun J H1 => LcW J H1 g t te vs σ Q := rfl
theorem z_for {wi : TI} {tb : TS} : tFor wi g tb D σ H = wi σ H fun J H1 => ForW J H1 g tb D σ := rfl
theorem z_gsub {to ti : TE} {f : TSet} {Qg : St → Hp → Prop} : gSub to ti f v σ H Qg = to σ H fun o H1 => ti σ H1 fun i H2 => f o i v H2 fun H3 => Qg σ H3 := rfl
theorem ixL {p : Addr} {xs : List V} {i : Int} (h : SqL K H p xs) (e : atI xs i = some v) (q : Q v H) : rIxA K (.ref p) (.int i) H Q := .inl ⟨p, xs, i, v, rfl, rfl, h, e, q⟩
theorem ixT {p : Addr} {xs : List V} {i : Int} (h : SqT K H p xs) (e : atI xs i = some v) (q : Q v H) : rIxA K (.ref p) (.int i) H Q := .inr ⟨p, xs, i, v, rfl, rfl, h, e, q⟩
theorem setL {p : Addr} {xs : List V} {i : Int} {j : Nat} {Qh : Hp → Prop} (h : H p = some (.lst xs)) (e : ixN xs.length i = some j) (q : Qh (upd H p (.lst (xs.set j v)))) : rSetL (.ref p) (.int i) v H Qh := ⟨p, xs, i, j, rfl, rfl, h, e, q⟩
theorem lenL {p : Addr} {xs : List V} (h : SqL K H p xs) (q : Q (.int (xs.length : Int)) H) : rLenU K [.ref p] H Q := ⟨p, xs, rfl, .inl h, q⟩
theorem lenT {p : Addr} {xs : List V} (h : SqT K H p xs) (q : Q (.int (xs.length : Int)) H) : rLenU K [.ref p] H Q := ⟨p, xs, rfl, .inr h, q⟩
theorem z_par3 {i j l : Nat} : tPar3 i j l tl D σ H = tl σ H fun vs H1 => ∃ u v w, vs = [u, v, w] ∧ D.nx (((σ.set i (some u)).set j (some v)).set l (some w)) H1 := rfl
theorem z_trip {u v w : V} {p : V → V → V → Prop} : (∃ a b c, [u, v, w] = [a, b, c] ∧ p a b c) = p u v w := propext ⟨fun ⟨_, _, _, e, q⟩ => by cases e; exact q, fun q => ⟨_, _, _, rfl, q⟩⟩
theorem z_rg1 {f : Int → Int → Hp → Prop} : tRg1 te σ H f = te σ H fun x H1 => ∃ n, x = .int n ∧ f 0 n H1 := rfl
theorem z_rg2 {f : Int → Int → Hp → Prop} : tRg2 ta tb σ H f = ta σ H fun x H1 => tb σ H1 fun y H2 => ∃ i j, x = .int i ∧ y = .int j ∧ f i j H2 := rfl
theorem z_ii {i j : Int} {p : Int → Int → Prop} : (∃ a b, V.int i = V.int a ∧ V.int j = V.int b ∧ p a b) = p i j := propext ⟨fun ⟨_, _, e1, e2, q⟩ => by cases e1; cases e2; exact q, fun q => ⟨_, _, rfl, rfl, q⟩⟩
theorem z_i1 {i : Int} {p : Int → Prop} : (∃ a, V.int i = V.int a ∧ p a) = p i := propext ⟨fun ⟨_, e1, q⟩ => by cases e1; exact q, fun q => ⟨_, rfl, q⟩⟩
theorem z_lstrg {f : St → Hp → (Int → Int → Hp → Prop) → Prop} : tLstRg f σ H Q = f σ H fun a b H1 => RgOk a b ∧ ∀ q, H1 q = none → Q (.ref q) (upd H1 q (.lst (rgV a b))) := rfl
theorem z_disp {trs : List (TE × TE)} : tDisp trs σ H Q = ∀ p, H p = none → tPairs trs σ (upd H p (.dK [])) fun ps H2 => H2 p = some (.dK []) ∧ ∃ kvs : List (Key × V), ps = kvs.map (fun kv => (kV kv.1, kv.2)) ∧ kvs.length ≤ 15 ∧ Q (.ref p) (upd H2 p (.dK (mergeK [] kvs))) := rfl
theorem z_tp0 {f : List (V × V) → Hp → Prop} : tPairs [] σ H f = f [] H := rfl
theorem z_tpS {r : List (TE × TE)} {f : List (V × V) → Hp → Prop} : tPairs ((ta, tb) :: r) σ H f = ta σ H fun x H1 => tb σ H1 fun y H2 => tPairs r σ H2 fun ps H3 => f ((x, y) :: ps) H3 := rfl
theorem z_tru : tTru K ta σ H QT = ta σ H fun x H' => ∃ k, TruV K x H' k ∧ QT k H' := rfl
theorem z_din : tDIn ta tb σ H Q = ta σ H fun y H1 => tb σ H1 fun x H2 => ∃ a o, x = V.ref a ∧ DGet H2 a y o ∧ Q (.bl o.isSome) H2 := rfl
theorem z_dget : tDGet ta tb σ H Q = ta σ H fun x H1 => tb σ H1 fun y H2 => ∃ a v, x = V.ref a ∧ DGet H2 a y (some v) ∧ Q v H2 := rfl
theorem z_dput : sDPut ta tb te D σ H = te σ H fun v H1 => ta σ H1 fun x H2 => tb σ H2 fun y H3 => ∃ a H4, x = V.ref a ∧ DPut H3 a y v H4 ∧ D.nx σ H4 := rfl
theorem z_cont : tCont D σ H = D.ct σ H := rfl
theorem z_dnew : tDNewK σ H Q = ∀ p, H p = none → Q (.ref p) (upd H p (.dK [])) := rfl
theorem z_sl {f : V → Option Int → Option Int → Hp → VK → Prop} {ul uh : TO} : tSl f te ul uh σ H Q = te σ H fun x H1 => ul σ H1 fun l H2 => uh σ H2 fun u H3 => f x l u H3 Q := rfl
theorem z_part {f : Option Int → Hp → Prop} : tPart te σ H f = te σ H fun x H1 => ∃ i, x = .int i ∧ f (some i) H1 := rfl
theorem z_nopart {f : Option Int → Hp → Prop} : tNoPart σ H f = f none H := rfl
theorem z_strI {i : Int} : rStrI [.int i] H Q = (i.natAbs.log2 < 1920 ∧ Q (.str (toString i)) H) := propext ⟨fun ⟨_, e, q⟩ => by cases e; exact q, fun q => ⟨_, rfl, q⟩⟩
theorem z_isN : tIsN ta σ H Q = ta σ H fun x H1 => Q (.bl (decide (x = .non))) H1 := rfl
theorem z_notN : tNotN ta σ H Q = ta σ H fun x H1 => Q (.bl (!decide (x = .non))) H1 := rfl
theorem z_dn1 {i : Int} : decide (V.int i = V.non) = false := rfl
theorem z_dn2 {i : Addr} : decide (V.ref i = V.non) = false := rfl
theorem z_dn3 {i : Bool} : decide (V.bl i = V.non) = false := rfl
theorem z_dn4 {i : Str} : decide (V.str i = V.non) = false := rfl
theorem z_dn5 : decide (V.non = V.non) = true := rfl
theorem z_some {a : V} {p : V → Prop} : (∃ x, some (some a) = some (some x) ∧ p x) = p a := propext ⟨fun ⟨_, e, q⟩ => by cases e; exact q, fun q => ⟨_, rfl, q⟩⟩
end
/-! comprehensions: outs i is what the i-th item gives, if anything -/
def OutOf (D : Addr) (nx : Hp → Prop) : Option V → Hp → Prop
  | some y, H4 => ∃ acc, H4 D = some (.lst acc) ∧ acc.length < sizeLine ∧ nx (upd H4 D (.lst (acc ++ [y])))
  | none, H3 => nx H3
def outL (outs : Nat → Option V) (n : Nat) : List V := (List.range n).filterMap outs
theorem outL_succ (outs : Nat → Option V) (n : Nat) : outL outs (n + 1) = outL outs n ++ (outs n).toList := by
  unfold outL
  rw [List.range_succ, List.filterMap_append]
  cases h : outs n <;> simp [h]
theorem outL_len (outs : Nat → Option V) (n : Nat) : (outL outs n).length ≤ n := by
  unfold outL
  exact Nat.le_trans (List.length_filterMap_le _ _) (by simp)
theorem same_mutD {H H' : Hp} {p : Addr} {o : HO} (s : Same H H') (hn : H p = none) : Same H (upd H' p o) := fun b u h => by
  rw [upd_ne (ne_of_none h hn)]; exact s b u h
theorem out_ok {H1 : Hp} {D : Addr} (hD : H1 D = none) (outs : Nat → Option V) {i n : Nat} (hi : i < n) (hn : n < 2 ^ 22) {H' H2 : Hp} (h : Same H1 H' ∧ H' D = some (.lst (outL outs i))) (s : Same H' H2) :
    OutOf D (fun H' => Same H1 H' ∧ H' D = some (.lst (outL outs (i + 1)))) (outs i) H2 := by
  have h2 := s _ _ h.2
  have h3 : Same H1 H2 := h.1.trans s
  cases e : outs i with
  | none =>
    refine ⟨h3, ?_⟩
    rw [outL_succ, e]
    simpa using h2
  | some y =>
    refine ⟨_, h2, Nat.lt_of_lt_of_le (Nat.lt_of_le_of_lt (Nat.le_trans (outL_len outs i) (Nat.le_of_lt hi)) hn) (by decide), same_mutD h3 hD, ?_⟩
    rw [upd_same, outL_succ, e]
    rfl
theorem comp_R {lo : Int} {n : Nat} {g : TG} {tt : TT} {te : TE} {vs : List Nat} {σ : St} {H1 : Hp} {Q : VK} (outs : Nat → Option V) (hn : n < 2 ^ 22)
    (turn : ∀ i H', i < n → Same H1 H' → ∀ Qo : Option V → Hp → Prop, (∀ H2, Same H' H2 → Qo (outs i) H2) → g (.int (lo + i)) (wipe σ vs) H' fun σ2 H2 => wipe σ2 vs = wipe σ vs ∧ tt σ2 H2 fun b H3 => if b = true then te σ2 H3 fun y H4 => Qo (some y) H4 else Qo none H3)
    (fin : ∀ D H', Same H1 H' → H' D = some (.lst (outL outs n)) → Q (.ref D) H') : LcW (Itr lo n) H1 g tt te vs σ Q := fun D hD =>
  lc_range (lo := lo) (n := n) (fun i H' => Same H1 H' ∧ H' D = some (.lst (outL outs i))) ⟨fun b u h => by rw [upd_ne (ne_of_none h hD)]; exact h, upd_same⟩
    (fun i H' hi p => turn i H' hi p.1 (OutOf D fun H' => Same H1 H' ∧ H' D = some (.lst (outL outs (i + 1)))) fun H2 s => out_ok hD outs hi hn p s) (fun H' p => fin D H' p.1 p.2)
theorem comp_T {K : PySem.W.Frag} {a : Addr} {xs : List V} {g : TG} {tt : TT} {te : TE} {vs : List Nat} {σ : St} {H1 : Hp} {Q : VK} (hT : SqT K H1 a xs) (outs : Nat → Option V) (hn : xs.length < 2 ^ 22)
    (turn : ∀ i x H', xs[i]? = some x → Same H1 H' → ∀ Qo : Option V → Hp → Prop, (∀ H2, Same H' H2 → Qo (outs i) H2) → g x (wipe σ vs) H' fun σ2 H2 => wipe σ2 vs = wipe σ vs ∧ tt σ2 H2 fun b H3 => if b = true then te σ2 H3 fun y H4 => Qo (some y) H4 else Qo none H3)
    (fin : ∀ D H', Same H1 H' → H' D = some (.lst (outL outs xs.length)) → Q (.ref D) H') : LcW (Itt K a) H1 g tt te vs σ Q := fun D hD => by
  have hsq : ∀ H', Same H1 H' → SqT K H' a xs := fun H' s => by
    rcases hT with (h | ⟨o, h⟩) | h
    · exact .inl (.inl (s _ _ h))
    · exact .inl (.inr ⟨o, s _ _ h⟩)
    · exact .inr h
  exact lc_tup (K := K) (a := a) (xs := xs) (fun i H' => Same H1 H' ∧ H' D = some (.lst (outL outs i))) ⟨fun b u h => by rw [upd_ne (ne_of_none h hD)]; exact h, upd_same⟩ (fun i H' _ p => hsq H' p.1)
    (fun i x H' hx p => turn i x H' hx p.1 (OutOf D fun H' => Same H1 H' ∧ H' D = some (.lst (outL outs (i + 1)))) fun H2 s => out_ok hD outs (by
      have := List.getElem?_eq_some_iff.mp hx
      exact this.1) hn p s) (fun H' p => fin D H' p.1 p.2)
theorem comp_L {K : PySem.W.Frag} {a : Addr} {xs : List V} {g : TG} {tt : TT} {te : TE} {vs : List Nat} {σ : St} {H1 : Hp} {Q : VK} (hT : SqL K H1 a xs) (outs : Nat → Option V) (hn : xs.length < 2 ^ 22)
    (turn : ∀ i x H', xs[i]? = some x → Same H1 H' → ∀ Qo : Option V → Hp → Prop, (∀ H2, Same H' H2 → Qo (outs i) H2) → g x (wipe σ vs) H' fun σ2 H2 => wipe σ2 vs = wipe σ vs ∧ tt σ2 H2 fun b H3 => if b = true then te σ2 H3 fun y H4 => Qo (some y) H4 else Qo none H3)
    (fin : ∀ D H', Same H1 H' → H' D = some (.lst (outL outs xs.length)) → Q (.ref D) H') : LcW (Itl K a) H1 g tt te vs σ Q := fun D hD =>
  lc_list (K := K) (a := a) (xs := xs) (fun i H' => Same H1 H' ∧ H' D = some (.lst (outL outs i))) ⟨fun b u h => by rw [upd_ne (ne_of_none h hD)]; exact h, upd_same⟩ (fun i H' _ p => p.1.seq hT)
    (fun i x H' hx p => turn i x H' hx p.1 (OutOf D fun H' => Same H1 H' ∧ H' D = some (.lst (outL outs (i + 1)))) fun H2 s => out_ok hD outs (by
      have := List.getElem?_eq_some_iff.mp hx
      exact this.1) hn p s) (fun H' p => fin D H' p.1 p.2)
theorem for_T {K : PySem.W.Frag} {a : Addr} {xs : List V} {g : TG} {tb : TS} {D : Ends} {σ : St} {H : Hp} (Pv : Nat → St → Hp → Prop) (h0 : Pv 0 σ H) (hl : ∀ i σ H, i ≤ xs.length → Pv i σ H → SqT K H a xs)
    (hs : ∀ i x σ H, xs[i]? = some x → Pv i σ H → ∀ N : St → Hp → Prop, (∀ σ' H', Pv (i + 1) σ' H' → N σ' H') → g x σ H fun σ2 H2 => tb { D with nx := N, ct := N, bk := D.nx } σ2 H2) (hd : ∀ σ H, Pv xs.length σ H → D.nx σ H) : ForW (Itt K a) H g tb D σ :=
  for_tup (xs := xs) Pv h0 hl (fun i x σ H hx p => hs i x σ H hx p _ fun _ _ h => h) hd
theorem for_L {K : PySem.W.Frag} {a : Addr} {xs : List V} {g : TG} {tb : TS} {D : Ends} {σ : St} {H : Hp} (Pv : Nat → St → Hp → Prop) (h0 : Pv 0 σ H) (hl : ∀ i σ H, i ≤ xs.length → Pv i σ H → SqL K H a xs)
    (hs : ∀ i x σ H, xs[i]? = some x → Pv i σ H → ∀ N : St → Hp → Prop, (∀ σ' H', Pv (i + 1) σ' H' → N σ' H') → g x σ H fun σ2 H2 => tb { D with nx := N, ct := N, bk := D.nx } σ2 H2) (hd : ∀ σ H, Pv xs.length σ H → D.nx σ H) : ForW (Itl K a) H g tb D σ :=
  for_list (xs := xs) Pv h0 hl (fun i x σ H hx p => hs i x σ H hx p _ fun _ _ h => h) hd
theorem for_R {lo : Int} {n : Nat} {g : TG} {tb : TS} {D : Ends} {σ : St} {H : Hp} (Pv : Nat → St → Hp → Prop) (h0 : Pv 0 σ H)
    (hs : ∀ i σ H, i < n → Pv i σ H → ∀ N : St → Hp → Prop, (∀ σ' H', Pv (i + 1) σ' H' → N σ' H') → g (.int (lo + i)) σ H fun σ2 H2 => tb { D with nx := N, ct := N, bk := D.nx } σ2 H2) (hd : ∀ σ H, Pv n σ H → D.nx σ H) : ForW (Itr lo n) H g tb D σ :=
  for_range (lo := lo) (n := n) Pv h0 (fun i σ H hx p => hs i σ H hx p _ fun _ _ h => h) hd
/-- while: the invariant W by its measure; N is what a turn is to reach -/
theorem while_of {c : TT} {tb : TS} {D : Ends} {σ : St} {H : Hp} (W : Nat → St → Hp → Prop) (m0 : Nat) (h0 : W m0 σ H)
    (hs : ∀ m σ H, W m σ H → ∀ N : St → Hp → Prop, (∀ m' σ' H', m' < m → W m' σ' H' → N σ' H') → (∀ σ' H', N σ' H' → ∃ m', m' < m ∧ W m' σ' H') →
      c σ H fun b H1 => if b = true then ∃ N : St → Hp → Prop, (∀ σ' H', N σ' H' → ∃ m', m' < m ∧ W m' σ' H') ∧ tb { D with nx := N, ct := N, bk := D.nx } σ H1 else D.nx σ H1) : tWhile c tb D σ H :=
  ⟨W, ⟨m0, h0⟩, fun m σ H w => hs m σ H w _ (fun m' _ _ a b => ⟨m', a, b⟩) (fun _ _ h => h)⟩
/-- a comprehension over zip of two tuples of one length -/
theorem comp_ZT {K : PySem.W.Frag} {a b : Addr} {xs ys : List V} {g : TG} {tt : TT} {te : TE} {vs : List Nat} {σ : St} {H1 : Hp} {Q : VK} (hl : xs.length = ys.length) (hA : SqT K H1 a xs) (hB : SqT K H1 b ys) (outs : Nat → Option V) (hn : xs.length < 2 ^ 22)
    (turn : ∀ i x y T H', xs[i]? = some x → ys[i]? = some y → Same H1 H' → H' T = none → ∀ Qo : Option V → Hp → Prop, (∀ H2, Same H' H2 → Qo (outs i) H2) → g (.ref T) (wipe σ vs) (upd H' T (.tup [x, y])) fun σ2 H2 => wipe σ2 vs = wipe σ vs ∧ tt σ2 H2 fun b H3 => if b = true then te σ2 H3 fun y H4 => Qo (some y) H4 else Qo none H3)
    (fin : ∀ D H', Same H1 H' → H' D = some (.lst (outL outs xs.length)) → Q (.ref D) H') : LcW (RZ.ItzT K a b) H1 g tt te vs σ Q := fun D hD => by
  have hsq : ∀ {a xs H'}, SqT K H1 a xs → Same H1 H' → SqT K H' a xs := fun hT s => by
    rcases hT with (h | ⟨o, h⟩) | h
    · exact .inl (.inl (s _ _ h))
    · exact .inl (.inr ⟨o, s _ _ h⟩)
    · exact .inr h
  refine ⟨fun i m H => m = xs.length - i ∧ i ≤ xs.length ∧ Same H1 H ∧ H D = some (.lst (outL outs i)), ⟨xs.length, by simp, Nat.zero_le _, fun b u h => by rw [upd_ne (ne_of_none h hD)]; exact h, upd_same⟩, ?_⟩
  rintro i m H ⟨rfl, hi, s1, hL⟩
  by_cases hlt : i < xs.length
  · have jlt : i < ys.length := by omega
    refine .inr ⟨⟨xs, ys, _, _, hsq hA s1, hsq hB s1, List.getElem?_eq_getElem hlt, List.getElem?_eq_getElem jlt⟩, fun H => Same H1 H ∧ H D = some (.lst (outL outs (i + 1))), fun H' p' => ⟨xs.length - (i + 1), by omega, rfl, hlt, p'⟩, fun v H' y => ?_⟩
    obtain ⟨T, u, v, rfl, hT, rfl, f1, f2⟩ := y
    exact turn i u v T H (f1 xs (hsq hA s1)) (f2 ys (hsq hB s1)) s1 hT (OutOf D fun H' => Same H1 H' ∧ H' D = some (.lst (outL outs (i + 1)))) fun H2 s => out_ok hD outs hlt hn ⟨s1, hL⟩ s
  · obtain rfl : i = xs.length := by omega
    exact .inl ⟨⟨xs, ys, hsq hA s1, hsq hB s1, Or.inl (Nat.le_refl _)⟩, fin D H s1 hL⟩
def Lc2W (J : It) (H1 : Hp) (g : TG) (tt : TT) (wi1 : TI) (g1 : TG) (tt1 : TT) (te : TE) (vs vs1 : List Nat) (σ : St) (Q : VK) : Prop := tLc2 (fun _ _ R => R J H1) g tt wi1 g1 tt1 te vs vs1 σ H1 Q
theorem z_lc2 {wi wi1 : TI} {g g1 : TG} {tt tt1 : TT} {te : TE} {vs vs1 : List Nat} {σ : St} {H : Hp} {Q : VK} : tLc2 wi g tt wi1 g1 tt1 te vs vs1 σ H Q = wi σ H fun J H1 => Lc2W J H1 g tt wi1 g1 tt1 te vs vs1 σ Q := rfl
/-- [f x y for x in xs for y in ys], both lists, f without a trace on the heap -/
theorem comp2_LL {K : PySem.W.Frag} {a b : Addr} {xs ys : List V} {g g1 : TG} {wi1 : TI} {te : TE} {vs vs1 : List Nat} {σ : St} {H1 : Hp} {Q : VK} (f : V → V → V) (σ1 : V → St) (σ2 : V → V → St) (hA : SqL K H1 a xs) (hB : SqL K H1 b ys) (hn : xs.length * ys.length < 2 ^ 22)
    (hg : ∀ x H' (P : St → Hp → Prop), P (σ1 x) H' → g x (wipe σ vs) H' P) (hw : ∀ x, wipe (σ1 x) vs = wipe σ vs)
    (hi : ∀ x H' R, Same H1 H' → R (Itl K b) H' → wi1 (σ1 x) H' R)
    (hg1 : ∀ x y H' (P : St → Hp → Prop), P (σ2 x y) H' → g1 y (wipe (σ1 x) vs1) H' P) (hw1 : ∀ x y, wipe (σ2 x y) vs1 = wipe (σ1 x) vs1)
    (he : ∀ x y H' Qe, x ∈ xs → y ∈ ys → Same H1 H' → Qe (f x y) H' → te (σ2 x y) H' Qe)
    (fin : ∀ D H', Same H1 H' → H' D = some (.lst (xs.flatMap fun x => ys.map (f x))) → Q (.ref D) H') :
    Lc2W (Itl K a) H1 g tYes wi1 g1 tYes te vs vs1 σ Q := fun D hD => by
  have full : ∀ i j : Nat, i < xs.length → j ≤ ys.length → (((xs.take i).flatMap fun x => ys.map (f x)) ++ ((ys.take j).map (f (xs[i]?.getD .non)))).length ≤ xs.length * ys.length := fun i j hi hj => by
    have e : ∀ l : List V, (l.flatMap fun x => ys.map (f x)).length = l.length * ys.length := fun l => by
      induction l with
      | nil => simp
      | cons x t ih => rw [List.flatMap_cons, List.length_append, ih, List.length_map, List.length_cons, Nat.add_mul, Nat.one_mul, Nat.add_comm]
    rw [List.length_append, e, List.length_map, List.length_take, List.length_take, Nat.min_eq_left (by omega), Nat.min_eq_left hj]
    have : (i + 1) * ys.length ≤ xs.length * ys.length := Nat.mul_le_mul_right _ hi
    rw [Nat.add_mul, Nat.one_mul] at this
    omega
  refine ⟨fun i m H => m = xs.length - i ∧ i ≤ xs.length ∧ Same H1 H ∧ H D = some (.lst ((xs.take i).flatMap fun x => ys.map (f x))), ⟨xs.length, by simp, Nat.zero_le _, fun b u h => by rw [upd_ne (ne_of_none h hD)]; exact h, by rw [upd_same]; simp⟩, ?_⟩
  rintro i m H ⟨rfl, hi', s1, hL⟩
  by_cases hlt : i < xs.length
  · have hx := List.getElem?_eq_getElem hlt
    refine .inr ⟨⟨xs, _, s1.seq hA, hx⟩, fun H => Same H1 H ∧ H D = some (.lst ((xs.take (i + 1)).flatMap fun x => ys.map (f x))), fun H' p' => ⟨xs.length - (i + 1), by omega, rfl, hlt, p'⟩, fun v H' y => ?_⟩
    obtain ⟨rfl, f1⟩ := y
    have hv := f1 xs (s1.seq hA)
    have ev : v = xs[i] := by rw [hx] at hv; exact (Option.some.inj hv).symm
    refine hg _ _ _ ⟨hw _, ?_⟩
    show wi1 _ _ _
    refine hi _ _ _ s1 ?_
    refine ⟨fun j k H => k = ys.length - j ∧ j ≤ ys.length ∧ Same H1 H ∧ H D = some (.lst (((xs.take i).flatMap fun x => ys.map (f x)) ++ ((ys.take j).map (f v)))), ⟨ys.length, by simp, Nat.zero_le _, s1, by simpa using hL⟩, ?_⟩
    rintro j k H ⟨rfl, hj, s2, hM⟩
    by_cases hjt : j < ys.length
    · have hy : ys[j]? = some ys[j] := List.getElem?_eq_getElem hjt
      refine .inr ⟨⟨ys, _, s2.seq hB, hy⟩, fun H => Same H1 H ∧ H D = some (.lst (((xs.take i).flatMap fun x => ys.map (f x)) ++ ((ys.take (j + 1)).map (f v)))), fun H' p' => ⟨ys.length - (j + 1), by omega, rfl, hjt, p'⟩, fun u H' y => ?_⟩
      obtain ⟨rfl, f2⟩ := y
      have hu := f2 ys (s2.seq hB)
      refine hg1 _ _ _ _ ⟨hw1 _ _, ?_⟩
      show te _ _ _
      refine he _ _ _ _ (List.mem_of_getElem? hv) (List.mem_of_getElem? hu) s2 ?_
      have fl := full i j hlt hj
      rw [hv] at fl
      refine ⟨_, hM, Nat.lt_of_le_of_lt fl (Nat.lt_of_lt_of_le hn (by decide)), same_mutD s2 hD, ?_⟩
      rw [upd_same, List.take_succ, hu, List.append_assoc]
      simp
    · have e : j = ys.length := by omega
      subst e
      refine .inl ⟨⟨ys, s2.seq hB, Nat.le_refl _⟩, s2, ?_⟩
      rw [hM, List.take_length, List.take_succ, hv]
      simp
  · obtain rfl : i = xs.length := by omega
    exact .inl ⟨⟨xs, s1.seq hA, Nat.le_refl _⟩, fin D H s1 (by rw [hL, List.take_length])⟩
theorem z_dget2 {σ : St} {H : Hp} {Q : VK} {ta tb te : TE} : tDGet2 ta tb te σ H Q = ta σ H fun x H1 => ∃ a, x = .ref a ∧ IsD H1 a ∧ tb σ H1 fun y H2 => te σ H2 fun z H3 => ∃ o, DGet H3 a y o ∧ Q (o.getD z) H3 := rfl
theorem z_izip {K : PySem.W.Frag} {σ : St} {H : Hp} {tl : TA} {R : It → Hp → Prop} : RZ.iZipA K tl σ H R = tl σ H fun vs H1 => ∃ a b xs ys, vs = [.ref a, .ref b] ∧ ((SqL K H1 a xs ∧ SqL K H1 b ys ∧ R (Itz K a b) H1) ∨ (SqT K H1 a xs ∧ SqT K H1 b ys ∧ R (RZ.ItzT K a b) H1)) := rfl
open Sem (wp)
/-! enumerate over a tuple -/
def itO (a : Addr) : Obj := { cls := .type "tuple_iterator", data := .fields #[.ref a, .int 0 0] }
def enO (it : Addr) : Obj := { cls := .type "enumerate", data := .fields #[.none, .bool false, .ref it, rawInt 0, .none, .none] }
theorem en_new (a : Addr) (its : Array Value) : Meets (Builtin.«enumerate.__new__» ⟨[.type "enumerate", .ref a], []⟩) (fun _ R s0 => s0.heap.IsTuple a its ∧ R (.ok (.ret (.ref (s0.heap.push (itO a)).objs.size))) { s0 with heap := (s0.heap.push (itO a)).push (enO s0.heap.objs.size) }) :=
  .of_wp fun prg wd AA RR s0 hs => by
    obtain ⟨hp, gg, dd, tk, os⟩ := s0
    obtain ⟨hT, hs⟩ := hs
    have hsub := PySem.sub_enumerate
    have go : ∀ {A' : Around} {E' : Value → Shared → Prop} {Q' : Value → Shared → Prop}, Q' (.ref hp.objs.size) ⟨hp.push (itO a), gg, dd, tk, os⟩ → wpAny (model prg wd) A' (pyIter (.ref a)) Q' E' ⟨hp, gg, dd, tk, os⟩ := fun q => (begins_tuple a its).iter prg wd _ _ ⟨hp, gg, dd, tk, os⟩ _ hT q
    wp_walk using go
    refine wpAny_stack_any fun stk => wpAny_pure ?_
    split
    · rename_i cc _ _ _ _ _
      cases (cc == Value.type "enumerate") <;> (wp_walk using go; exact ⟨_, rfl, hs⟩)
    · wp_walk using go
      exact ⟨_, rfl, hs⟩
theorem en_call {prg : Program} {wd : World} {AA : Around} {EE : Value → Shared → Prop} {s0 : Shared} {a : Addr} {its : Array Value} {Q : Value → Shared → Prop} (hT : s0.heap.IsTuple a its)
    (h : ∀ h1, IsEnum h1 (s0.heap.objs.size + 1) s0.heap.objs.size 0 .none → h1.IsTupleIter s0.heap.objs.size a 0 → (∀ b ob, s0.heap.get? b = some ob → h1.get? b = some ob) → Q (.ref (s0.heap.objs.size + 1)) { s0 with heap := h1 }) :
    wpAny (model prg wd) AA (call (.type "enumerate") [.ref a]) Q EE s0 := by
  refine callType_new F.called_enumerate (by decide) (F.typeCall_enumerate_1 _) (F.newCall_enumerate_1 _) (fun ob => F.args_object_init_2 ob _) F.entry_enumerate_new (en_new a its) ⟨hT, ?_⟩
  have z1 : (s0.heap.push (itO a)).objs.size = s0.heap.objs.size + 1 := Heap.size_push ..
  have z2 : IsEnum ((s0.heap.push (itO a)).push (enO s0.heap.objs.size)) (s0.heap.objs.size + 1) s0.heap.objs.size 0 .none := by
    have z3 := Heap.get?_push_size (s0.heap.push (itO a)) (o := enO s0.heap.objs.size) rfl
    rw [z1] at z3
    exact z3
  show _ ∧ _
  rw [z1]
  exact ⟨⟨_, z2, rfl⟩, h _ z2 ⟨_, Heap.get?_push_of_some _ (Heap.get?_push_size _ rfl), rfl, rfl⟩ fun b ob y => Heap.get?_push_of_some _ (Heap.get?_push_of_some _ y)⟩
/-- the tuple at a, each item in a new pair with its index -/
def IteT (K : PySem.W.Frag) (a : Addr) : It :=
  ⟨fun i H => ∃ (xs : List V) (x : V), SqT K H a xs ∧ xs[i]? = some x,
   fun i H v H' => ∃ T x, v = .ref T ∧ H T = none ∧ H' = upd H T (.tup [.int (i : Nat), x]) ∧ ∀ xs, SqT K H a xs → xs[i]? = some x,
   fun i H => ∃ xs : List V, SqT K H a xs ∧ xs.length = i⟩
theorem en_apart {h : Heap} {e it a : Addr} {n : Int} {old : Value} {its : Array Value} {i : Nat} (he : IsEnum h e it n old) (hi : h.IsTupleIter it a i) (ha : h.IsTuple a its) : a ≠ it ∧ e ∉ [it, a] ∧ e ≠ it := by
  obtain ⟨o1, g1, c1, _⟩ := hi
  obtain ⟨o2, g2, c2, _⟩ := ha
  have n1 : a ≠ it := fun q => by
    rw [q, g1] at g2
    cases g2
    rw [c1] at c2
    exact absurd c2 (by decide)
  have n2 : e ≠ it := fun q => by
    rw [q] at he
    have := g1.symm.trans he
    cases this
    exact (show (Value.type "enumerate") ≠ Value.type "tuple_iterator" by decide) c1
  have n3 : e ≠ a := fun q => by
    rw [q] at he
    have := g2.symm.trans he
    cases this
    exact (show (Value.type "enumerate") ≠ Value.type "tuple" by decide) c2
  exact ⟨n1, by simp [n2, n3], n2⟩
theorem turn_enT {prg : Program} {wd : World} {K : PySem.W.Frag} {elts : List Expr} {kk : Nat} {tpos : Pos} (a e it : Addr) : Turn prg wd K (.Tuple elts kk tpos) (IteT K a) [e, it] e (fun i h => (∃ old, IsEnum h e it ((i : Nat) : Int) old) ∧ h.IsTupleIter it a i) where
  mem := List.mem_cons_self
  obj := fun i h st b hb => by
    obtain ⟨⟨old, he⟩, o, ho, _, hd⟩ := st
    rcases List.mem_cons.mp hb with z | z
    · subst z
      exact ⟨_, he, fun v q => nomatch q⟩
    · obtain rfl := List.mem_singleton.mp z
      exact ⟨o, ho, fun v q => by rw [hd] at q; cases q⟩
  keep := fun i h h' st k => by
    obtain ⟨⟨old, he⟩, hi⟩ := st
    exact ⟨⟨old, k e List.mem_cons_self _ he⟩, hi.at fun o q => k it (List.mem_cons_of_mem _ List.mem_cons_self) o q⟩
  item := by
    intro X hP hw hK hc i pins s0 σ H EE I hf st hg
    subst hP hw hK
    obtain ⟨⟨old, he⟩, hi⟩ := st
    obtain ⟨xs, x, hq, hx⟩ := hg
    obtain ⟨its, rv, p, _⟩ := I.tuple hq
    have p : s0.heap.IsTuple a its.toArray := p
    obtain ⟨u, hu, relu⟩ := rv.get hx
    obtain ⟨n1, n2, n3⟩ := en_apart he hi p
    have hlt : i < its.toArray.size := by
      have := (List.getElem?_eq_some_iff.mp hu).1
      simpa using this
    have szE : e < s0.heap.objs.size := Heap.lt_size he
    have szI : it < s0.heap.objs.size := by
      obtain ⟨_, q, _⟩ := hi
      exact Heap.lt_size q
    refine wpAny_pyNext_enum_itemD (Draws.tuple (A := X.A.in1) (I.ok.hd hc) it a n1 its.toArray) he ⟨hi, p⟩ hlt n3 n2 fun y h1 tk hy ho hs hT _ hk => ?_
    have ey : y = u := by
      have : its[i]? = some y := by simpa using hy
      rw [hu] at this
      exact (Option.some.inj this).symm
    subst ey
    refine ⟨_, rfl, wpAny_letOwnedTupleGo_enum (s := { s0 with heap := h1, toks := tk + 1 }) ho fun h2 he2 sb => ?_⟩
    have hT2 := (sb.2 _ (Nat.ne_of_gt szE)).trans hT
    have fresh : H s0.heap.objs.size = none := I.hok.fresh (Nat.le_refl _)
    have neu : ObjOk X.prog X.w (upd H s0.heap.objs.size (.tup [.int (i : Nat), x])) h2 s0.heap.objs.size (.tup [.int (i : Nat), x]) := ⟨by show 2 ≤ sizeLine; decide, [.int i tk, y], .cons ⟨_, rfl⟩ (.cons relu .nil), ⟨_, hT2, rfl, _, rfl⟩⟩
    have kept : ∀ b ob, b ∉ [e, it] → s0.heap.get? b = some ob → h2.get? b = some ob := fun b ob hb q => by
      have hb' : b ≠ e ∧ b ≠ it := by simpa using hb
      exact (sb.2 b hb'.1).trans (hk b ob hb'.1 hb'.2 q)
    have J := I.turnedNew (t' := tk + 1) kept hf (Nat.le_refl _) neu
    refine ⟨.ref s0.heap.objs.size, _, J, rfl, ⟨_, x, rfl, fresh, rfl, fun ys hy => by rw [I.tuple_inj hy hq]; exact hx⟩, ⟨⟨y, ?_⟩, hs.1.at fun o q => (sb.2 it (Ne.symm n3)).trans q⟩, fun b hb => ?_⟩
    · rw [show ((i + 1 : Nat) : Int) = (i : Int) + 1 by omega]; exact he2
    · have hlt2 : b < s0.heap.objs.size := by
        rcases List.mem_cons.mp hb with z | z
        · rw [z]; exact szE
        · rw [List.mem_singleton.mp z]; exact szI
      rw [upd_ne (Nat.ne_of_lt hlt2)]
      exact (hf b hb).1
  done := by
    intro X hP hw hK hc i pins s0 σ H EE I hf st hg
    subst hP hw hK
    obtain ⟨⟨old, he⟩, hi⟩ := st
    obtain ⟨xs, hq, hx⟩ := hg
    obtain ⟨its, rv, p, _⟩ := I.tuple hq
    have p : s0.heap.IsTuple a its.toArray := p
    obtain ⟨n1, n2, n3⟩ := en_apart he hi p
    obtain ⟨f0, f1, f2, f3, f4, f5⟩ := hf it (List.mem_cons_of_mem _ List.mem_cons_self)
    have e1 : i = its.toArray.size := by
      have := rv.length
      simp
      omega
    subst e1
    exact wpAny_pyNext_enum_endD (Draws.tuple (A := X.A.in1) (I.ok.hd hc) it a n1 its.toArray) he ⟨hi, p⟩ fun h1 eb => ⟨rfl, I.turned (t' := s0.toks) (fun b ob hb q => eb b ob hb q) f0 f1 f3 f4 f5⟩
  self := fun AA i s0 Q EE st h => by
    obtain ⟨⟨_, he⟩, _⟩ := st
    exact wpAny_pyIter_enum he h
def iEnT (K : PySem.W.Frag) (ta : TA) : TI := fun σ H R => ta σ H fun vs H1 => ∃ a xs, vs = [.ref a] ∧ SqT K H1 a xs ∧ R (IteT K a) H1
theorem pi_enT {X : Cx} {e : Expr} {ta : TA} {p pos tpos : Pos} {elts : List Expr} {kk : Nat} (hg : Gl X "enumerate") (hm : X.mg "enumerate" = none) (ha : PA X [e] ta) (hs : starEach [e] X.env = [(false, eval e X.env)] := by rfl) : PI X (.Tuple elts kk tpos) (.Call (.Name "enumerate" p) [e] [] pos) (iEnT X.K ta) := by
  refine ⟨fun pins s0 σ H R I h => Call_ (ld_blt I hg hm boot_enumerate (PyProof.Rows.callWith_type1 (thn (ha.run pos pins s0 σ H _ I h) fun us s1 ⟨vs, H1, I1, r1, q1⟩ => ?_) hs rfl))⟩
  obtain ⟨a, xs, rfl, hq, q⟩ := q1
  cases r1 with
  | cons r rr =>
    cases rr
    cases r
    obtain ⟨its, rv, p', _⟩ := I1.tuple hq
    refine en_call (show s1.heap.IsTuple a its.toArray from p') fun h1 he hi hk => wpAny_pyIter_enum he ?_
    have J : Inv X pins σ H1 { s1 with heap := h1 } := I1.kept (t' := s1.toks) hk
    refine ⟨s1.heap.objs.size + 1, [s1.heap.objs.size + 1, s1.heap.objs.size], _, _, H1, rfl, J, turn_enT a (s1.heap.objs.size + 1) s1.heap.objs.size, ⟨⟨.none, he⟩, hi⟩, fun b hb => ?_, q⟩
    have above : s1.heap.objs.size ≤ b := (List.mem_cons.mp hb).elim (fun q => by rw [q]; exact Nat.le_succ _) (fun q => by rw [List.mem_singleton.mp q]; exact Nat.le_refl _)
    exact I1.fpOk above (I1.hok.fresh above)
/-- for i, x in enumerate(a tuple) -/
theorem for_enT {K : PySem.W.Frag} {a : Addr} {xs : List V} {g : TG} {tb : TS} {D : Ends} {σ : L2.St} {H : Hp} (Pv : Nat → L2.St → Hp → Prop) (h0 : Pv 0 σ H) (hl : ∀ i σ H, Pv i σ H → SqT K H a xs)
    (hs : ∀ (i : Nat) (x : V) (T : Addr) (σ : L2.St) (H : Hp), xs[i]? = some x → Pv i σ H → H T = none → ∀ N : L2.St → Hp → Prop, (∀ σ' H', Pv (i + 1) σ' H' → N σ' H') → g (.ref T) σ (upd H T (.tup [.int (i : Nat), x])) fun σ2 H2 => tb { D with nx := N, ct := N, bk := D.nx } σ2 H2) (hd : ∀ σ H, Pv xs.length σ H → D.nx σ H) : ForW (IteT K a) H g tb D σ := by
  refine ⟨fun k m σ H => m + k = xs.length ∧ Pv k σ H, ⟨xs.length, by omega, h0⟩, ?_⟩
  rintro i m σ H ⟨em, p⟩
  have q := hl i σ H p
  by_cases hlt : i < xs.length
  · refine .inr ⟨⟨xs, _, q, List.getElem?_eq_getElem hlt⟩, Pv (i + 1), fun σ' H' p' => ⟨xs.length - (i + 1), by omega, by omega, p'⟩, fun v H' y => ?_⟩
    obtain ⟨T, x', rfl, hT, rfl, f1⟩ := y
    exact hs i x' T σ H (f1 xs q) p hT _ fun _ _ h => h
  · obtain rfl : i = xs.length := by omega
    exact .inl ⟨⟨xs, q, rfl⟩, hd σ H p⟩
theorem z_ient {K : PySem.W.Frag} {σ : L2.St} {H : Hp} {tl : TA} {R : It → Hp → Prop} : iEnT K tl σ H R = tl σ H fun vs H1 => ∃ a xs, vs = [.ref a] ∧ SqT K H1 a xs ∧ R (IteT K a) H1 := rfl
/-! a chain of three comparisons -/
def tChain3 (r r' r'' : R2) (ta tb tc td : TE) : TE := fun σ H Q => ta σ H fun x H1 => tb σ H1 fun y H2 => r x y H2 fun z H3 => ∃ k, z = .bl k ∧ (if k = true then tc σ H3 fun u H4 => r' y u H4 fun z2 H5 => ∃ k2, z2 = .bl k2 ∧ (if k2 = true then td σ H5 fun v H6 => r'' u v H6 Q else Q (.bl false) H5) else Q (.bl false) H3)
theorem pt_chain3 {X : Cx} {pos : Pos} {a b c d : Expr} {ta tb tc td : TE} {op op' op'' : CmpOp} {r r' r'' : R2} (ho : OpR X (compareOp op) r) (ho' : OpR X (compareOp op') r') (ho'' : OpR X (compareOp op'') r'') (ha : PE X a ta) (hb : PE X b tb) (hc : PE X c tc) (hd : PE X d td)
    (hm : lastMarks [op, op', op''] [b, c, d] = false := by with_unfolding_all rfl) : PT X (.Compare a [op, op', op''] [b, c, d] pos) (tTest (tChain3 r r' r'' ta tb tc td)) := by
  refine ⟨fun pins s0 σ H Q I h => isTrue_chain (thn (ha.run pins s0 σ H _ I h) fun v s1 ⟨x, H1, I1, r1, q1⟩ => test_link (thn (hb.run pins s1 σ H1 _ I1 q1) fun u s2 ⟨y, H2, I2, r2, q2⟩ => thn (ho pins s2 σ H2 x y v u _ I2 r1 r2 q2) fun dd s3 ⟨z, H3, I3, r3, k, e, q3⟩ => ?_)) hm⟩
  subst e
  cases r3
  refine wpAny_truthy_bool ?_
  cases k with
  | false =>
    obtain ⟨k', e', q'⟩ := q3
    cases e'
    exact ite_ff ⟨H3, I3, q'⟩
  | true =>
    refine ite_tt (test_link (thn (hc.run pins s3 σ H3 _ I3 q3) fun w' s4 ⟨z', H4, I4, r4, q4⟩ => thn (ho' pins s4 σ H4 y z' u w' _ I4 r2 r4 q4) fun d' s5 ⟨z2, H5, I5, r5, k2, e2, q5⟩ => ?_))
    subst e2
    cases r5
    refine wpAny_truthy_bool ?_
    cases k2 with
    | false =>
      obtain ⟨k', e', q'⟩ := q5
      cases e'
      exact ite_ff ⟨H5, I5, q'⟩
    | true =>
      refine ite_tt (test_last (thn (hd.run pins s5 σ H5 _ I5 q5) fun w2 s6 ⟨z3, H6, I6, r6, q6⟩ => thn (ho'' pins s6 σ H6 z' z3 w' w2 _ I6 r4 r6 q6) fun d2 s7 ⟨z4, H7, I7, r7, k3, e3, q7⟩ => ?_))
      subst e3
      cases r7
      exact wpAny_truthy_bool ⟨H7, I7, q7⟩
theorem z_chain3 {K : PySem.W.Frag} {σ : L2.St} {H : Hp} {Q : VK} {r r' r'' : R2} {ta tb tc td : TE} : tChain3 r r' r'' ta tb tc td σ H Q = ta σ H fun x H1 => tb σ H1 fun y H2 => r x y H2 fun z H3 => ∃ k, z = .bl k ∧ (if k = true then tc σ H3 fun u H4 => r' y u H4 fun z2 H5 => ∃ k2, z2 = .bl k2 ∧ (if k2 = true then td σ H5 fun v H6 => r'' u v H6 Q else Q (.bl false) H5) else Q (.bl false) H3) := rfl
/-! x in (a, b, ..): the tuple is forgotten at once -/
def tInT (neg : Bool) (ta : TE) (ts : TA) : TE := fun σ H Q => ta σ H fun x H1 => ts σ H1 fun xs H2 => xs.length ≤ sizeLine ∧ flatV x = true ∧ xs.all flatV = true ∧ Q (.bl (if neg then !inV x xs else inV x xs)) H2
theorem z_inT {neg : Bool} {ta : TE} {ts : TA} {σ : L2.St} {H : Hp} {Q : VK} : tInT neg ta ts σ H Q = ta σ H fun x H1 => ts σ H1 fun xs H2 => xs.length ≤ sizeLine ∧ flatV x = true ∧ xs.all flatV = true ∧ Q (.bl (if neg then !inV x xs else inV x xs)) H2 := rfl
theorem pe_inT {X : Cx} {a : Expr} {ta : TE} {es : List Expr} {ts : TA} {x1} {p pos : Pos} (ha : PE X a ta) (h : PA X es ts) (hm : behindInMarks .In (.Tuple es x1 p) = false) : PE X (.Compare a [.In] [.Tuple es x1 p] pos) (tInT false ta ts) := by
  refine ⟨fun pins s σ H Q I hq => ?_⟩
  refine wpAny_Compare1 (thn (ha.run pins s σ H _ I hq) fun v s1 ⟨x, H1, I1, r1, q1⟩ => wpAny_Tuple_spliced (thn (h.run p pins s1 σ H1 _ I1 q1) fun us s2 ⟨xs, H2, I2, r, z, fx, fs, q⟩ => ⟨by rw [← r.length]; exact z, ?_⟩)) hm
  have I3 : Inv X pins σ H2 { s2 with heap := s2.heap.push { cls := .type "tuple", data := .seq us.toArray } } := I2.kept (t' := s2.toks) fun b u e => Heap.get?_push_of_some _ e
  refine SeqAt.in_tupleAt (eqU x) ⟨_, Heap.get?_push_size _ rfl, rfl, _, rfl⟩ (fun w hw => mem_eqAt r1 fx r fs w (by simpa using hw)) ⟨.bl _, H2, I3, rfl, ?_⟩
  rw [show us.toArray.any (eqU x) = us.any (eqU x) by simp, any_eqU r fs]
  exact q
theorem pe_notInT {X : Cx} {a : Expr} {ta : TE} {es : List Expr} {ts : TA} {x1} {p pos : Pos} (ha : PE X a ta) (h : PA X es ts) (hm : behindInMarks .NotIn (.Tuple es x1 p) = false) : PE X (.Compare a [.NotIn] [.Tuple es x1 p] pos) (tInT true ta ts) := by
  refine ⟨fun pins s σ H Q I hq => ?_⟩
  refine wpAny_Compare1 (thn (ha.run pins s σ H _ I hq) fun v s1 ⟨x, H1, I1, r1, q1⟩ => wpAny_Tuple_spliced (thn (h.run p pins s1 σ H1 _ I1 q1) fun us s2 ⟨xs, H2, I2, r, z, fx, fs, q⟩ => ⟨by rw [← r.length]; exact z, ?_⟩)) hm
  have I3 : Inv X pins σ H2 { s2 with heap := s2.heap.push { cls := .type "tuple", data := .seq us.toArray } } := I2.kept (t' := s2.toks) fun b u e => Heap.get?_push_of_some _ e
  refine SeqAt.notIn_tupleAt (eqU x) ⟨_, Heap.get?_push_size _ rfl, rfl, _, rfl⟩ (fun w hw => mem_eqAt r1 fx r fs w (by simpa using hw)) ⟨.bl _, H2, I3, rfl, ?_⟩
  rw [show us.toArray.any (eqU x) = us.any (eqU x) by simp, any_eqU r fs]
  exact q
end L2.Z

namespace L2.Z
open PySem PySem.Spec PyProof.Rows
local macro_rules | `(tactic| walk_at "z") => `(tactic| (try simp only [↓z_var0, ↓z_varS, ↓z_C, ↓z_op, ↓z_un, ↓z_I0, ↓z_I, ↓z_U, ↓z_eqI, ↓z_neI, ↓z_bl, ↓z_test, ↓z_B, ↓z_and, ↓z_or, ↓z_not, ↓z_andV, ↓z_orV, ↓z_notV, ↓z_if, ↓z_ifS, ↓z_seq, ↓z_next, ↓z_ret, ↓z_retN, ↓z_asg, ↓z_gname, ↓z_drop, ↓z_nil, ↓z_cons, ↓z_call, ↓z_CB, ↓z_par, ↓z_pair, ↓z_aug0, ↓z_ipI, ↓z_abs, ↓z_max, ↓z_min, ↓z_int, ↓z_intB, ↓z_gcd, ↓z_tup, ↓z_lst, ↓z_chain, z_some, z_bl, z_pair, decide_eq_true_eq, Bool.not_eq_true', decide_eq_false_iff_not, List.set_cons_zero, List.set_cons_succ, List.getElem?_cons_zero, List.getElem?_cons_succ, Bool.false_eq_true, Bool.true_eq_false, if_true, if_false, ↓reduceIte, ↓z_isN, ↓z_gtup, ↓z_gcons, ↓z_gnil, ↓z_yes, ↓z_wipe0, ↓z_wipeS, ↓z_itup, ↓z_ilist, ↓z_irng1, ↓z_irng2, ↓z_lc, ↓z_lc2, ↓z_izip, ↓z_ient, ↓z_chain3, ↓z_inT, ↓z_par3, z_trip, ↓z_rg1, ↓z_rg2, z_ii, z_i1, ↓z_lstrg, ↓z_disp, ↓z_tp0, ↓z_tpS, ↓z_dnew, ↓z_din, ↓z_tru, ↓z_dget, ↓z_dget2, ↓z_dput, ↓z_cont, ↓z_sl, ↓z_part, ↓z_nopart, ↓z_strI, ↓z_gsub, ↓z_for, true_and, and_true, decide_true, decide_false, not_true_eq_false, not_false_eq_true, ↓z_bm, ↓z_bm0, ↓z_notN, z_dn1, z_dn2, z_dn3, z_dn4, z_dn5, Nat.zero_add, Nat.reduceAdd, Nat.reduceSub, List.replicate_succ, List.replicate_zero, start, List.map_cons, List.map_nil, List.length_cons, List.length_nil, List.cons_append, List.nil_append]))
def top (i : Nat) : Stmt := PySem.Challenge.pw_zeroorone_k02_whole_grounds_and_numbers.main.body.getD i (.Pass ⟨0, 0, 0, 0⟩)
abbrev s_is_int : Stmt := top 8
abbrev s_has_no_parts : Stmt := top 11
abbrev s_bezout : Stmt := top 15
abbrev s_number_of : Stmt := top 18
abbrev s_is_below : Stmt := top 9
abbrev s_is_between : Stmt := top 10
abbrev s_undone_modulo : Stmt := top 16
abbrev s_prime_fits : Stmt := top 12
abbrev s_number_fits : Stmt := top 14
abbrev s_quotient : Stmt := top 17
abbrev s_check_integer : Stmt := top 22
abbrev s_ground_fits : Stmt := top 13
abbrev s_fraction : Stmt := top 27
abbrev s_check_ground : Stmt := top 21
abbrev s_is_ground : Stmt := top 24
abbrev s_is_number : Stmt := top 25
abbrev s_whole : Stmt := top 26
abbrev s__law_dice : Stmt := top 29
abbrev s__law_roll : Stmt := top 30
abbrev s__law_gcd : Stmt := top 32
abbrev s__law_is_ground : Stmt := top 33
abbrev s__law_is_short : Stmt := top 34
abbrev s__law_pick : Stmt := top 31
abbrev s__law_is_number : Stmt := top 35
abbrev s__law_values : Stmt := top 36
abbrev s_law : Stmt := top 37
structure Tx (K : PySem.W.Frag) (mg : Str → Option Value) : Prop where
  f_is_int : ∃ fd, FunD K "is_int" "is_int" (defArgs s_is_int) (defBody s_is_int) (defScope s_is_int) [] [] (He.ga K "is_int") fd
  g_is_int : mg "is_int" = some (.ref (He.ga K "is_int"))
  f_has_no_parts : ∃ fd, FunD K "has_no_parts" "has_no_parts" (defArgs s_has_no_parts) (defBody s_has_no_parts) (defScope s_has_no_parts) [] [] (He.ga K "has_no_parts") fd
  g_has_no_parts : mg "has_no_parts" = some (.ref (He.ga K "has_no_parts"))
  f_bezout : ∃ fd, FunD K "bezout" "bezout" (defArgs s_bezout) (defBody s_bezout) (defScope s_bezout) [] [] (He.ga K "bezout") fd
  g_bezout : mg "bezout" = some (.ref (He.ga K "bezout"))
  f_number_of : ∃ fd, FunD K "number_of" "number_of" (defArgs s_number_of) (defBody s_number_of) (defScope s_number_of) [] [] (He.ga K "number_of") fd
  g_number_of : mg "number_of" = some (.ref (He.ga K "number_of"))
  f_is_below : ∃ fd, FunD K "is_below" "is_below" (defArgs s_is_below) (defBody s_is_below) (defScope s_is_below) [] [] (He.ga K "is_below") fd
  g_is_below : mg "is_below" = some (.ref (He.ga K "is_below"))
  f_is_between : ∃ fd, FunD K "is_between" "is_between" (defArgs s_is_between) (defBody s_is_between) (defScope s_is_between) [] [] (He.ga K "is_between") fd
  g_is_between : mg "is_between" = some (.ref (He.ga K "is_between"))
  f_undone_modulo : ∃ fd, FunD K "undone_modulo" "undone_modulo" (defArgs s_undone_modulo) (defBody s_undone_modulo) (defScope s_undone_modulo) [] [] (He.ga K "undone_modulo") fd
  g_undone_modulo : mg "undone_modulo" = some (.ref (He.ga K "undone_modulo"))
  f_prime_fits : ∃ fd, FunD K "prime_fits" "prime_fits" (defArgs s_prime_fits) (defBody s_prime_fits) (defScope s_prime_fits) [] [] (He.ga K "prime_fits") fd
  g_prime_fits : mg "prime_fits" = some (.ref (He.ga K "prime_fits"))
  f_number_fits : ∃ fd, FunD K "number_fits" "number_fits" (defArgs s_number_fits) (defBody s_number_fits) (defScope s_number_fits) [] [] (He.ga K "number_fits") fd
  g_number_fits : mg "number_fits" = some (.ref (He.ga K "number_fits"))
  f_quotient : ∃ fd, FunD K "quotient" "quotient" (defArgs s_quotient) (defBody s_quotient) (defScope s_quotient) [] [] (He.ga K "quotient") fd
  g_quotient : mg "quotient" = some (.ref (He.ga K "quotient"))
  f_check_integer : ∃ fd, FunD K "check_integer" "check_integer" (defArgs s_check_integer) (defBody s_check_integer) (defScope s_check_integer) [] [] (He.ga K "check_integer") fd
  g_check_integer : mg "check_integer" = some (.ref (He.ga K "check_integer"))
  f_ground_fits : ∃ fd, FunD K "ground_fits" "ground_fits" (defArgs s_ground_fits) (defBody s_ground_fits) (defScope s_ground_fits) [] [] (He.ga K "ground_fits") fd
  g_ground_fits : mg "ground_fits" = some (.ref (He.ga K "ground_fits"))
  f_fraction : ∃ fd, FunD K "fraction" "fraction" (defArgs s_fraction) (defBody s_fraction) (defScope s_fraction) [] [] (He.ga K "fraction") fd
  g_fraction : mg "fraction" = some (.ref (He.ga K "fraction"))
  f_check_ground : ∃ fd, FunD K "check_ground" "check_ground" (defArgs s_check_ground) (defBody s_check_ground) (defScope s_check_ground) [] [] (He.ga K "check_ground") fd
  g_check_ground : mg "check_ground" = some (.ref (He.ga K "check_ground"))
  f_is_ground : ∃ fd, FunD K "is_ground" "is_ground" (defArgs s_is_ground) (defBody s_is_ground) (defScope s_is_ground) [] [] (He.ga K "is_ground") fd
  g_is_ground : mg "is_ground" = some (.ref (He.ga K "is_ground"))
  f_is_number : ∃ fd, FunD K "is_number" "is_number" (defArgs s_is_number) (defBody s_is_number) (defScope s_is_number) [] [] (He.ga K "is_number") fd
  g_is_number : mg "is_number" = some (.ref (He.ga K "is_number"))
  f_whole : ∃ fd, FunD K "whole" "whole" (defArgs s_whole) (defBody s_whole) (defScope s_whole) [] [] (He.ga K "whole") fd
  g_whole : mg "whole" = some (.ref (He.ga K "whole"))
  f__law_dice : ∃ fd, FunD K "_law_dice" "_law_dice" (defArgs s__law_dice) (defBody s__law_dice) (defScope s__law_dice) [] [] (He.ga K "_law_dice") fd
  g__law_dice : mg "_law_dice" = some (.ref (He.ga K "_law_dice"))
  f__law_roll : ∃ fd, FunD K "_law_roll" "_law_roll" (defArgs s__law_roll) (defBody s__law_roll) (defScope s__law_roll) [] [] (He.ga K "_law_roll") fd
  g__law_roll : mg "_law_roll" = some (.ref (He.ga K "_law_roll"))
  f__law_gcd : ∃ fd, FunD K "_law_gcd" "_law_gcd" (defArgs s__law_gcd) (defBody s__law_gcd) (defScope s__law_gcd) [] [] (He.ga K "_law_gcd") fd
  g__law_gcd : mg "_law_gcd" = some (.ref (He.ga K "_law_gcd"))
  f__law_is_ground : ∃ fd, FunD K "_law_is_ground" "_law_is_ground" (defArgs s__law_is_ground) (defBody s__law_is_ground) (defScope s__law_is_ground) [] [] (He.ga K "_law_is_ground") fd
  g__law_is_ground : mg "_law_is_ground" = some (.ref (He.ga K "_law_is_ground"))
  f__law_is_short : ∃ fd, FunD K "_law_is_short" "_law_is_short" (defArgs s__law_is_short) (defBody s__law_is_short) (defScope s__law_is_short) [] [] (He.ga K "_law_is_short") fd
  g__law_is_short : mg "_law_is_short" = some (.ref (He.ga K "_law_is_short"))
  f__law_pick : ∃ fd, FunD K "_law_pick" "_law_pick" (defArgs s__law_pick) (defBody s__law_pick) (defScope s__law_pick) [] [] (He.ga K "_law_pick") fd
  g__law_pick : mg "_law_pick" = some (.ref (He.ga K "_law_pick"))
  f__law_is_number : ∃ fd, FunD K "_law_is_number" "_law_is_number" (defArgs s__law_is_number) (defBody s__law_is_number) (defScope s__law_is_number) [] [] (He.ga K "_law_is_number") fd
  g__law_is_number : mg "_law_is_number" = some (.ref (He.ga K "_law_is_number"))
  f__law_values : ∃ fd, FunD K "_law_values" "_law_values" (defArgs s__law_values) (defBody s__law_values) (defScope s__law_values) [] [] (He.ga K "_law_values") fd
  g__law_values : mg "_law_values" = some (.ref (He.ga K "_law_values"))
  f_law : ∃ fd, FunD K "law" "law" (defArgs s_law) (defBody s_law) (defScope s_law) [] [] (He.ga K "law") fd
  g_law : mg "law" = some (.ref (He.ga K "law"))
  c_LAST_GROUND : ∃ t, mg "LAST_GROUND" = some (.int 9999 t)
  c_SIXTY_DIGITS : ∃ t, mg "SIXTY_DIGITS" = some (.int 1000000000000000000000000000000000000000000000000000000000000 t)
  n_abs : mg "abs" = none
  n_bool : mg "bool" = none
  n_int : mg "int" = none
  n_isinstance : mg "isinstance" = none
  n_len : mg "len" = none
  n_list : mg "list" = none
  n_max : mg "max" = none
  n_min : mg "min" = none
  n_range : mg "range" = none
  n_repr : mg "repr" = none
  n_str : mg "str" = none
  n_tuple : mg "tuple" = none
  b_gcd : mg "gcd" = some (.builtin "math.gcd")
/-- all that was tracked but at d is as it was -/
def Keep (d : Addr) (H H' : Hp) : Prop := ∀ b o, b ≠ d → H b = some o → H' b = some o
theorem mulS {i j : Int} (h : -(2 ^ 64) < i ∧ i < 2 ^ 64) : CMul i j ∨ CMulW i j := .inl (.inl h)
theorem mulR {i j : Int} (h : -(2 ^ 64) < j ∧ j < 2 ^ 64) : CMul i j ∨ CMulW i j := .inl (.inr h)
theorem divS {i j : Int} (h : 0 < j) (h2 : j < 2 ^ 64) : CDivW i j := wide_div (b := 64) h (by omega) (by decide) (by decide)
theorem divZ {i j : Int} (h : j ≠ 0) (h2 : j.natAbs < 2 ^ 250) : CDivZ i j := ⟨h, Nat.lt_of_lt_of_le (PySem.Flt.log2_lt_of (by decide) h2) (by decide)⟩
theorem emod_small {a m : Int} (h0 : 0 ≤ a) (h1 : a < m) : a % m = a := Int.emod_eq_of_lt h0 h1
theorem same_new {H H' : Hp} {p : Addr} {o : HO} (s : Same H H') (hn : H' p = none) : Same H (upd H' p o) := fun b u h => by
  rw [upd_ne (ne_of_none (s b u h) hn)]; exact s b u h
theorem same_mut {H H' : Hp} {p : Addr} {o : HO} (s : Same H H') (hn : H p = none) : Same H (upd H' p o) := fun b u h => by
  rw [upd_ne (ne_of_none h hn)]; exact s b u h
theorem same_upd {H : Hp} {p : Addr} {o : HO} (hn : H p = none) : Same H (upd H p o) := same_new (Same.refl H) hn
theorem sqT_of {K : PySem.W.Frag} {H : Hp} {a : Addr} {xs : List V} (h : H a = some (.tup xs)) : SqT K H a xs := .inl (.inl h)
theorem sqL_of {K : PySem.W.Frag} {H : Hp} {a : Addr} {xs : List V} (h : H a = some (.lst xs)) : SqL K H a xs := .inl (.inl h)
/-- d is the least divisor of n from 2 on -/
def Least (d n : Int) : Prop := 2 ≤ d ∧ d ∣ n ∧ ∀ k, 2 ≤ k → k < d → ¬ k ∣ n
def PrimeI (n : Int) : Prop := 2 ≤ n ∧ ∀ k, 2 ≤ k → k < n → ¬ k ∣ n
/-! values of any kind -/
def isI : V → Bool
  | .int _ => true
  | _ => false
def isB : V → Bool
  | .bl _ => true
  | _ => false
def Kn (H : Hp) : V → Prop
  | .non => True
  | .bl _ => True
  | .int _ => True
  | .str _ => True
  | .ref a => (∃ xs, H a = some (.lst xs)) ∨ (∃ xs, H a = some (.tup xs)) ∨ ∃ kvs, H a = some (.dK kvs)
  | _ => False
theorem Kn.same {H H' : Hp} {v : V} (k : Kn H v) (s : Same H H') : Kn H' v := by
  cases v with
  | ref a =>
    rcases k with ⟨xs, h⟩ | ⟨xs, h⟩ | ⟨xs, h⟩
    · exact .inl ⟨xs, s _ _ h⟩
    · exact .inr (.inl ⟨xs, s _ _ h⟩)
    · exact .inr (.inr ⟨xs, s _ _ h⟩)
  | _ => exact k
theorem isi_kn_int {K : PySem.W.Frag} {v : V} {H : Hp} {Q : VK} (k : Kn H v) (q : Q (.bl (isI v || isB v)) H) : rIsi K [v, .ty "int"] H Q := by
  cases v with
  | non => exact ⟨_, _, _, _, _, rfl, .ty "int", .base .non, kit_ty (show kitB "NoneType" "int" = some false by decide +kernel), q⟩
  | bl b => exact ⟨_, _, _, _, _, rfl, .ty "int", .base (.bl b), kit_ty (show kitB "bool" "int" = some true by decide +kernel), q⟩
  | int i => exact ⟨_, _, _, _, _, rfl, .ty "int", .base (.int i), kit_ty (show kitB "int" "int" = some true by decide +kernel), q⟩
  | str x => exact ⟨_, _, _, _, _, rfl, .ty "int", .base (.str x), kit_ty (show kitB "str" "int" = some false by decide +kernel), q⟩
  | ref a =>
    rcases k with ⟨xs, h⟩ | ⟨xs, h⟩ | ⟨xs, h⟩
    · exact ⟨_, _, _, _, _, rfl, .ty "int", .base (.lst h), kit_ty (show kitB "list" "int" = some false by decide +kernel), q⟩
    · exact ⟨_, _, _, _, _, rfl, .ty "int", .base (.tup h), kit_ty (show kitB "tuple" "int" = some false by decide +kernel), q⟩
    · exact ⟨_, _, _, _, _, rfl, .ty "int", .base (.dK h), kit_ty (show kitB "dict" "int" = some false by decide +kernel), q⟩
  | byt _ => exact k.elim
  | flt _ => exact k.elim
  | ty _ => exact k.elim
theorem isi_kn_bool {K : PySem.W.Frag} {v : V} {H : Hp} {Q : VK} (k : Kn H v) (q : Q (.bl (isB v)) H) : rIsi K [v, .ty "bool"] H Q := by
  cases v with
  | non => exact ⟨_, _, _, _, _, rfl, .ty "bool", .base .non, kit_ty (show kitB "NoneType" "bool" = some false by decide +kernel), q⟩
  | bl b => exact ⟨_, _, _, _, _, rfl, .ty "bool", .base (.bl b), kit_ty (show kitB "bool" "bool" = some true by decide +kernel), q⟩
  | int i => exact ⟨_, _, _, _, _, rfl, .ty "bool", .base (.int i), kit_ty (show kitB "int" "bool" = some false by decide +kernel), q⟩
  | str x => exact ⟨_, _, _, _, _, rfl, .ty "bool", .base (.str x), kit_ty (show kitB "str" "bool" = some false by decide +kernel), q⟩
  | ref a =>
    rcases k with ⟨xs, h⟩ | ⟨xs, h⟩ | ⟨xs, h⟩
    · exact ⟨_, _, _, _, _, rfl, .ty "bool", .base (.lst h), kit_ty (show kitB "list" "bool" = some false by decide +kernel), q⟩
    · exact ⟨_, _, _, _, _, rfl, .ty "bool", .base (.tup h), kit_ty (show kitB "tuple" "bool" = some false by decide +kernel), q⟩
    · exact ⟨_, _, _, _, _, rfl, .ty "bool", .base (.dK h), kit_ty (show kitB "dict" "bool" = some false by decide +kernel), q⟩
  | byt _ => exact k.elim
  | flt _ => exact k.elim
  | ty _ => exact k.elim
/-- the value is a tuple of these -/
def TupV (H : Hp) (v : V) (xs : List V) : Prop := ∃ a, v = .ref a ∧ H a = some (.tup xs)
theorem TupV.same {H H' : Hp} {v : V} {xs : List V} (k : TupV H v xs) (s : Same H H') : TupV H' v xs := by
  obtain ⟨a, e, h⟩ := k
  exact ⟨a, e, s _ _ h⟩
theorem isi_kn_tuple {K : PySem.W.Frag} {v : V} {H : Hp} {Q : VK} (k : Kn H v) (q1 : ∀ xs, TupV H v xs → Q (.bl true) H) (q2 : (∀ xs, ¬ TupV H v xs) → Q (.bl false) H) : rIsi K [v, .ty "tuple"] H Q := by
  cases v with
  | non => exact ⟨_, _, _, _, _, rfl, .ty "tuple", .base .non, kit_ty (show kitB "NoneType" "tuple" = some false by decide +kernel), q2 fun _ ⟨_, e, _⟩ => by cases e⟩
  | bl b => exact ⟨_, _, _, _, _, rfl, .ty "tuple", .base (.bl b), kit_ty (show kitB "bool" "tuple" = some false by decide +kernel), q2 fun _ ⟨_, e, _⟩ => by cases e⟩
  | int i => exact ⟨_, _, _, _, _, rfl, .ty "tuple", .base (.int i), kit_ty (show kitB "int" "tuple" = some false by decide +kernel), q2 fun _ ⟨_, e, _⟩ => by cases e⟩
  | str x => exact ⟨_, _, _, _, _, rfl, .ty "tuple", .base (.str x), kit_ty (show kitB "str" "tuple" = some false by decide +kernel), q2 fun _ ⟨_, e, _⟩ => by cases e⟩
  | ref a =>
    rcases k with ⟨xs, h⟩ | ⟨xs, h⟩ | ⟨xs, h⟩
    · exact ⟨_, _, _, _, _, rfl, .ty "tuple", .base (.lst h), kit_ty (show kitB "list" "tuple" = some false by decide +kernel), q2 fun _ ⟨_, e, h2⟩ => by cases e; rw [h] at h2; cases h2⟩
    · exact ⟨_, _, _, _, _, rfl, .ty "tuple", .base (.tup h), kit_ty (show kitB "tuple" "tuple" = some true by decide +kernel), q1 xs ⟨a, rfl, h⟩⟩
    · exact ⟨_, _, _, _, _, rfl, .ty "tuple", .base (.dK h), kit_ty (show kitB "dict" "tuple" = some false by decide +kernel), q2 fun _ ⟨_, e, h2⟩ => by cases e; rw [h] at h2; cases h2⟩
  | byt _ => exact k.elim
  | flt _ => exact k.elim
  | ty _ => exact k.elim
/-- .. and where it is a tuple, its members are of known kinds too -/
def Kn2 (H : Hp) (v : V) : Prop := Kn H v ∧ ∀ xs, TupV H v xs → ∀ x ∈ xs, Kn H x
/-- grounds, numbers -/
def GroundV (v : V) : Prop := ∃ n, v = .int n ∧ 0 ≤ n ∧ n ≤ 9999 ∧ (n = 0 ∨ PrimeI n)
def belowB (v : V) (l : Int) : Bool := match v with
  | .int i => decide (-l < i ∧ i < l)
  | _ => false
def NumV (H : Hp) (g : Int) (v : V) (l : Int) : Prop :=
  (g ≠ 0 ∧ ∃ n, v = .int n ∧ 0 ≤ n ∧ n < g) ∨ (g = 0 ∧ ∃ t b : Int, TupV H v [.int t, .int b] ∧ (-l < t ∧ t < l) ∧ (-l < b ∧ b < l) ∧ 1 ≤ b ∧ Nat.gcd t.natAbs b.natAbs = 1)
theorem belowB_int {v : V} {l : Int} (h : belowB v l = true) : ∃ i, v = .int i ∧ -l < i ∧ i < l := by
  cases v <;> simp only [belowB, Bool.false_eq_true, decide_eq_true_eq] at h
  exact ⟨_, rfl, h⟩
theorem least_two {n : Int} (h : n % 2 = 0) : Least 2 n := ⟨by omega, by omega, fun k h1 h2 => by omega⟩
theorem least_self {n d : Int} (hn : 2 ≤ n) (h : ∀ k, 2 ≤ k → k < d → ¬ k ∣ n) (hd : n < d * d) (h0 : 2 ≤ d) : Least n n := by
  refine ⟨hn, Int.dvd_refl n, fun k h1 h2 h3 => ?_⟩
  obtain ⟨q, rfl⟩ := h3
  have hq : 2 ≤ q := by
    by_cases hq0 : q ≤ 0
    · have := Int.mul_le_mul_of_nonneg_left hq0 (show 0 ≤ k by omega)
      omega
    · by_cases hq1 : q = 1
      · subst hq1; omega
      · omega
  by_cases hk : k < d
  · exact h k h1 hk (Int.dvd_mul_right k q)
  · by_cases hqd : q < d
    · exact h q hq hqd (Int.dvd_mul_left k q)
    · have := Int.mul_le_mul (show d ≤ k by omega) (show d ≤ q by omega) (by omega) (by omega)
      omega
theorem in_twothree {n : Int} : inV (.int n) [.int 2, .int 3] = decide (n = 2 ∨ n = 3) := by
  rw [Bool.eq_iff_iff, decide_eq_true_eq]
  simp [inV, eqV]
  omega
theorem prime_two : PrimeI 2 := ⟨by decide, fun k h1 h2 => by omega⟩
theorem prime_three : PrimeI 3 := ⟨by decide, fun k h1 h2 => by
  obtain rfl : k = 2 := by omega
  decide⟩
/-! ### is_int -/
theorem sc_is_int : FnScope ["value"] ["value"] (defScope s_is_int) := ⟨rfl, rfl, rfl, by decide +kernel, rfl, by decide +kernel, by decide +kernel⟩
def sp_is_int (K : PySem.W.Frag) : Sp := fun vs H Q _ => ∃ v : V, vs = [v] ∧ Kn H v ∧ Q (.bl (isI v)) H
theorem len_is_int {K : PySem.W.Frag} {vs : List V} {H : Hp} {Q : VK} {E : XK} (h : sp_is_int K vs H Q E) : vs.length = ["value"].length := by
  obtain ⟨_, rfl, _⟩ := h
  rfl
def t_is_int (K : PySem.W.Frag) : TS := (tRet (tAndV (tCB (rIsi K) (tCons (tVar 0) (tCons (tC (.ty "int")) tNil))) (tNotV (tCB (rIsi K) (tCons (tVar 0) (tCons (tC (.ty "bool")) tNil))))))
theorem pure_is_int (K : PySem.W.Frag) (vs : List V) (H : Hp) (Q : VK) (E : XK) (h : sp_is_int K vs H Q E) : t_is_int K { nx := fun _ H' => Q .non H', rt := Q } (start ["value"] vs) H := by
  obtain ⟨v, rfl, hk, hq⟩ := h
  unfold t_is_int
  walk_at "z"
  refine isi_kn_int hk ?_
  walk_at "z"
  by_cases h1 : (isI v || isB v) = true
  · rw [if_pos h1]
    refine isi_kn_bool hk ?_
    walk_at "z"
    have e : (!isB v) = isI v := by cases v <;> simp_all [isI, isB]
    rw [e]
    exact hq
  · rw [if_neg h1]
    have e : isI v = false := by cases v <;> simp_all [isI, isB]
    rw [e] at hq
    exact hq
theorem ok_is_int {P : Program} {w : World} {K : PySem.W.Frag} {mg : Str → Option Value} {base : Heap} (T : Tx K mg) : Okk P w K mg base 1 "is_int" ["value"] (sp_is_int K) := by
  have hf_bool := T.n_bool
  have hf_int := T.n_int
  have hf_isinstance := T.n_isinstance
  obtain ⟨fd, F⟩ := T.f_is_int
  refine ⟨fd, F.ok sc_is_int (fun vs H Q E h => len_is_int h) (fun cdv A outer s H vs Q E hr h => ⟨t_is_int K, PSs.nox ?_, pure_is_int K vs H Q E h⟩), F.bindsN (fun _ _ _ _ _ _ us hl => match us, hl with | [_], _ => rfl), T.g_is_int, F.kp⟩
  exact (pss_one (ps_ret (pe_and (pe_callB call_isi (by rfl) hf_isinstance (by decide +kernel) (pa_cons (pv 0) (pa_cons (pe_bltn (v := .ty "int") rfl hf_int (by decide +kernel) rfl) pa_nil))) (pe_one (pe_not (pe_callB call_isi (by rfl) hf_isinstance (by decide +kernel) (pa_cons (pv 0) (pa_cons (pe_bltn (v := .ty "bool") rfl hf_bool (by decide +kernel) rfl) pa_nil))))))))
/-! ### has_no_parts -/
theorem sc_has_no_parts : FnScope ["number", "divisor"] ["number"] (defScope s_has_no_parts) := ⟨rfl, rfl, rfl, by decide +kernel, rfl, by decide +kernel, by decide +kernel⟩
def sp_has_no_parts (K : PySem.W.Frag) : Sp := fun vs H Q _ => ∃ n : Int, vs = [.int n] ∧ n < 2 ^ 40 ∧ ∀ b : Bool, (b = true ↔ PrimeI n) → Q (.bl b) H
theorem len_has_no_parts {K : PySem.W.Frag} {vs : List V} {H : Hp} {Q : VK} {E : XK} (h : sp_has_no_parts K vs H Q E) : vs.length = ["number"].length := by
  obtain ⟨_, rfl, _⟩ := h
  rfl
def t_has_no_parts_w1_c (K : PySem.W.Frag) : TT := (tAnd (tTest (tOp rLeI (tOp rMulU (tVar 1) (tVar 1)) (tVar 0))) (tTest (tOp rNe (tOp rModU (tVar 0) (tVar 1)) (tC (.int 0)))))
def t_has_no_parts_w1_b (K : PySem.W.Frag) : TS := (tAug 1 (tC (.int 2)) (ipI fun i j => i + j))
def t_has_no_parts (K : PySem.W.Frag) : TS := (tSeq (tIfS (tOr (tTest (tOp rLtI (tVar 0) (tC (.int 4)))) (tTest (tOp rEq (tOp rModU (tVar 0) (tC (.int 2))) (tC (.int 0))))) (tRet (tInT false (tVar 0) (tCons (tC (.int 2)) (tCons (tC (.int 3)) tNil)))) tNext)
  (tSeq (tAsg (tC (.int 3)) (gName 1))
  (tSeq (tWhile (t_has_no_parts_w1_c K) (t_has_no_parts_w1_b K))
  (tRet (tOp rGtI (tOp rMulU (tVar 1) (tVar 1)) (tVar 0))))))
theorem pure_has_no_parts (K : PySem.W.Frag) (vs : List V) (H : Hp) (Q : VK) (E : XK) (h : sp_has_no_parts K vs H Q E) : t_has_no_parts K { nx := fun _ H' => Q .non H', rt := Q } (start ["number", "divisor"] vs) H := by
  obtain ⟨n, rfl, hn2, hq⟩ := h
  unfold t_has_no_parts
  walk_at "z"
  have small : (n < 4 ∨ n % 2 = 0) → Q (.bl (inV (.int n) [.int 2, .int 3])) H := fun hs => by
    refine hq _ ?_
    rw [in_twothree, decide_eq_true_eq]
    constructor
    · rintro (rfl | rfl)
      · exact prime_two
      · exact prime_three
    · rintro ⟨h1, h2⟩
      by_cases e : n % 2 = 0
      · by_cases e2 : n = 2
        · exact .inl e2
        · exact absurd (show (2 : Int) ∣ n by omega) (h2 2 (by omega) (by omega))
      · omega
  by_cases h4 : n < 4
  · rw [if_pos h4]
    exact ⟨by decide, rfl, rfl, small (.inl h4)⟩
  rw [if_neg h4]
  walk_at "z"
  refine ⟨by decide, ?_⟩
  by_cases h2 : n % 2 = 0
  · rw [if_pos h2]
    exact ⟨by decide, rfl, rfl, small (.inr h2)⟩
  rw [if_neg h2]
  refine while_of (fun m σ H' => ∃ d : Int, σ = [some (.int n), some (.int d)] ∧ H' = H ∧ 3 ≤ d ∧ d % 2 = 1 ∧ (∀ k, 2 ≤ k → k < d → ¬ k ∣ n) ∧ d < 2 ^ 41 ∧ m = (2 ^ 42 - d).toNat) (2 ^ 42 - 3) ⟨3, rfl, rfl, by omega, by omega, fun k h1 h3 => by
      obtain rfl : k = 2 := by omega
      omega, by omega, by decide⟩ ?_
  rintro m σ H' ⟨d, rfl, rfl, hd, hodd, hk, hd2, rfl⟩ N hN hN2
  unfold t_has_no_parts_w1_c t_has_no_parts_w1_b
  walk_at "z"
  refine ⟨mulS (by omega), ?_⟩
  by_cases hdd : d * d ≤ n
  · rw [if_pos hdd]
    walk_at "z"
    refine ⟨by omega, ?_⟩
    have hdn : d < n := by
      have := Int.mul_le_mul_of_nonneg_right (show (3:Int) ≤ d by omega) (show (0:Int) ≤ d by omega)
      omega
    by_cases hm : n % d = 0
    · rw [if_neg (by omega)]
      walk_at "z"
      refine ⟨mulS (by omega), hq _ ⟨fun h => ?_, fun h => absurd (Int.dvd_of_emod_eq_zero hm) (h.2 d (by omega) hdn)⟩⟩
      rw [decide_eq_true_eq] at h
      omega
    · rw [if_pos hm]
      refine ⟨N, hN2, ?_⟩
      walk_at "z"
      have hlt : d < 2 ^ 20 + 2 := by
        by_cases q : d < 2 ^ 20 + 2
        · exact q
        · have := Int.mul_le_mul (show (2 ^ 20 + 2 : Int) ≤ d by omega) (show (2 ^ 20 + 2 : Int) ≤ d by omega) (by omega) (by omega)
          omega
      refine hN _ _ _ (by omega) ⟨d + 2, rfl, rfl, by omega, by omega, fun k h1 h3 => ?_, by omega, rfl⟩
      by_cases e1 : k < d
      · exact hk k h1 e1
      · by_cases e2 : k = d
        · subst e2
          intro hx
          exact hm (Int.emod_eq_zero_of_dvd hx)
        · obtain rfl : k = d + 1 := by omega
          intro hx
          have : (2 : Int) ∣ n := Int.dvd_trans (by omega) hx
          omega
  · rw [if_neg hdd]
    walk_at "z"
    refine ⟨mulS (by omega), hq _ ⟨fun _ => ?_, fun _ => decide_eq_true (by omega)⟩⟩
    have := least_self (by omega) hk (by omega) (by omega)
    exact ⟨this.1, this.2.2⟩

theorem ok_has_no_parts {P : Program} {w : World} {K : PySem.W.Frag} {mg : Str → Option Value} {base : Heap} (T : Tx K mg) : Okk P w K mg base 1 "has_no_parts" ["number"] (sp_has_no_parts K) := by
  obtain ⟨fd, F⟩ := T.f_has_no_parts
  refine ⟨fd, F.ok sc_has_no_parts (fun vs H Q E h => len_has_no_parts h) (fun cdv A outer s H vs Q E hr h => ⟨t_has_no_parts K, PSs.nox ?_, pure_has_no_parts K vs H Q E h⟩), F.bindsN (fun _ _ _ _ _ _ us hl => match us, hl with | [_], _ => rfl), T.g_has_no_parts, F.kp⟩
  exact (pss_cons (ps_if (PW.pt (pw_or (pt_cmpR op_lt (pv 0) pe_int (nomark _)) (pw_or1 (pt_cmpR op_eq (pe_op op_mod (pv 0) pe_int) pe_int (nomark _))))) (pss_one (ps_ret (pe_inT (pv 0) (pa_cons pe_int (pa_cons pe_int pa_nil)) rfl))) pss_nil)
      (pss_cons (ps_set (i := 1) sc_has_no_parts.nd rfl (by first | exact Or.inl rfl | exact Or.inr rfl) pe_int)
      (pss_cons (ps_while PassesOwn.never (PW.pt (pw_and (pt_cmpR op_le (pe_op op_mulU (pv 1) (pv 1)) (pv 0) (nomark _)) (pw_and1 (pt_cmpR op_ne (pe_op op_mod (pv 0) (pv 1)) pe_int (nomark _))))) (pss_one (ps_aug (i := 1) sc_has_no_parts.nd rfl (by first | exact Or.inl rfl | exact Or.inr rfl) pe_int ip_add)))
      (pss_one (ps_ret (pe_cmpR op_gt (pe_op op_mulU (pv 1) (pv 1)) (pv 0) (nomark _)))))))
/-! ### bezout -/
theorem sc_bezout : FnScope ["one", "other", "rest", "after", "u", "later_u", "v", "later_v", "often"] ["one", "other"] (defScope s_bezout) := ⟨rfl, rfl, rfl, by decide +kernel, rfl, by decide +kernel, by decide +kernel⟩
def sp_bezout (K : PySem.W.Frag) : Sp := fun _ _ _ _ => False
theorem len_bezout {K : PySem.W.Frag} {vs : List V} {H : Hp} {Q : VK} {E : XK} (h : sp_bezout K vs H Q E) : vs.length = ["one", "other"].length := h.elim
theorem ok_bezout {P : Program} {w : World} {K : PySem.W.Frag} {mg : Str → Option Value} {base : Heap} (T : Tx K mg) : Okk P w K mg base 1 "bezout" ["one", "other"] (sp_bezout K) := by
  obtain ⟨fd, F⟩ := T.f_bezout
  exact ⟨fd, F.ok sc_bezout (fun vs H Q E h => len_bezout h) (fun cdv A outer s H vs Q E hr h => h.elim), F.bindsN (fun _ _ _ _ _ _ us hl => match us, hl with | [_, _], _ => rfl), T.g_bezout, F.kp⟩
/-! ### number_of -/
theorem sc_number_of : FnScope ["ground", "integer"] ["ground", "integer"] (defScope s_number_of) := ⟨rfl, rfl, rfl, by decide +kernel, rfl, by decide +kernel, by decide +kernel⟩
def sp_number_of (K : PySem.W.Frag) : Sp := fun vs H Q _ => ∃ g n : Int, vs = [.int g, .int n] ∧ 0 ≤ g ∧ (g = 0 → ∀ p, H p = none → Q (.ref p) (upd H p (.tup [.int n, .int 1]))) ∧ (g ≠ 0 → Q (.int (n % g)) H)
theorem len_number_of {K : PySem.W.Frag} {vs : List V} {H : Hp} {Q : VK} {E : XK} (h : sp_number_of K vs H Q E) : vs.length = ["ground", "integer"].length := by
  obtain ⟨_, _, rfl, _⟩ := h
  rfl
def t_number_of (K : PySem.W.Frag) : TS := (tRet (tIf (tTest (tOp rEq (tVar 0) (tC (.int 0)))) (tTup (tCons (tVar 1) (tCons (tC (.int 1)) tNil))) (tOp rModU (tVar 1) (tVar 0))))
theorem pure_number_of (K : PySem.W.Frag) (vs : List V) (H : Hp) (Q : VK) (E : XK) (h : sp_number_of K vs H Q E) : t_number_of K { nx := fun _ H' => Q .non H', rt := Q } (start ["ground", "integer"] vs) H := by
  obtain ⟨g, n, rfl, h0, h1, h2⟩ := h
  unfold t_number_of
  walk_at "z"
  by_cases hg : g = 0
  · rw [if_pos hg]
    exact ⟨by decide, h1 hg⟩
  · rw [if_neg hg]
    exact ⟨by omega, h2 hg⟩
theorem ok_number_of {P : Program} {w : World} {K : PySem.W.Frag} {mg : Str → Option Value} {base : Heap} (T : Tx K mg) : Okk P w K mg base 1 "number_of" ["ground", "integer"] (sp_number_of K) := by
  obtain ⟨fd, F⟩ := T.f_number_of
  refine ⟨fd, F.ok sc_number_of (fun vs H Q E h => len_number_of h) (fun cdv A outer s H vs Q E hr h => ⟨t_number_of K, PSs.nox ?_, pure_number_of K vs H Q E h⟩), F.bindsN (fun _ _ _ _ _ _ us hl => match us, hl with | [_, _], _ => rfl), T.g_number_of, F.kp⟩
  exact (pss_one (ps_ret (pe_ifExp (pt_cmpR op_eq (pv 0) pe_int (nomark _)) (pe_tup (pa_cons (pv 1) (pa_cons pe_int pa_nil))) (pe_op op_mod (pv 1) (pv 0)))))
/-! ### is_below -/
theorem sc_is_below : FnScope ["value", "limit"] ["value", "limit"] (defScope s_is_below) := ⟨rfl, rfl, rfl, by decide +kernel, rfl, by decide +kernel, by decide +kernel⟩
def sp_is_below (K : PySem.W.Frag) : Sp := fun vs H Q _ => ∃ (v : V) (l : Int), vs = [v, .int l] ∧ Kn H v ∧ Q (.bl (belowB v l)) H
theorem len_is_below {K : PySem.W.Frag} {vs : List V} {H : Hp} {Q : VK} {E : XK} (h : sp_is_below K vs H Q E) : vs.length = ["value", "limit"].length := by
  obtain ⟨_, _, rfl, _⟩ := h
  rfl
def t_is_below (K : PySem.W.Frag) : TS := (tRet (tAndV (tCall (sp_is_int K) [] E0 (tCons (tVar 0) tNil)) (tOrV (tIsN (tVar 1)) (tChain rLtI rLtI (tUn rNeg (tVar 1)) (tVar 0) (tVar 1)))))
theorem pure_is_below (K : PySem.W.Frag) (vs : List V) (H : Hp) (Q : VK) (E : XK) (h : sp_is_below K vs H Q E) : t_is_below K { nx := fun _ H' => Q .non H', rt := Q } (start ["value", "limit"] vs) H := by
  obtain ⟨v, l, rfl, hk, hq⟩ := h
  unfold t_is_below
  walk_at "z"
  refine ⟨v, rfl, hk, ?_⟩
  walk_at "z"
  cases v with
  | int i =>
    simp only [isI, if_true]
    walk_at "z"
    unfold belowB at hq
    by_cases h1 : -l < i
    · rw [if_pos h1]
      simpa [h1] using hq
    · rw [if_neg h1]
      simpa [h1] using hq
  | _ =>
    simp only [isI, Bool.false_eq_true, if_false]
    exact hq
theorem ok_is_below {P : Program} {w : World} {K : PySem.W.Frag} {mg : Str → Option Value} {base : Heap} (T : Tx K mg) : Okk P w K mg base 2 "is_below" ["value", "limit"] (sp_is_below K) := by
  obtain ⟨fd_is_int, F_is_int, b_is_int, g_is_int, k_is_int⟩ := ok_is_int (P := P) (w := w) (base := base) T
  obtain ⟨fd, F⟩ := T.f_is_below
  refine ⟨fd, F.ok sc_is_below (fun vs H Q E h => len_is_below h) (fun cdv A outer s H vs Q E hr h => ⟨t_is_below K, PSs.nox ?_, pure_is_below K vs H Q E h⟩), F.bindsN (fun _ _ _ _ _ _ us hl => match us, hl with | [_, _], _ => rfl), T.g_is_below, F.kp⟩
  exact (pss_one (ps_ret (pe_and (pe_call F_is_int (hr.mono (by decide)) rfl g_is_int k_is_int b_is_int .nil pass0 (pa_cons (pv 0) pa_nil)) (pe_one (pe_or (pe_cmp (pc_isN (pv 1))) (pe_one (pe_chain op_lt op_lt (pe_un un_neg (pv 1)) (pv 0) (pv 1))))))))
/-! ### is_between -/
theorem sc_is_between : FnScope ["value", "low", "high"] ["value", "low", "high"] (defScope s_is_between) := ⟨rfl, rfl, rfl, by decide +kernel, rfl, by decide +kernel, by decide +kernel⟩
def betwB (v : V) (lo hi : Int) : Bool := match v with
  | .int i => decide (lo ≤ i ∧ i ≤ hi)
  | _ => false
def sp_is_between (K : PySem.W.Frag) : Sp := fun vs H Q _ => ∃ (v : V) (lo hi : Int), vs = [v, .int lo, .int hi] ∧ Kn H v ∧ Q (.bl (betwB v lo hi)) H
theorem len_is_between {K : PySem.W.Frag} {vs : List V} {H : Hp} {Q : VK} {E : XK} (h : sp_is_between K vs H Q E) : vs.length = ["value", "low", "high"].length := by
  obtain ⟨_, _, _, rfl, _⟩ := h
  rfl
def t_is_between (K : PySem.W.Frag) : TS := (tRet (tAndV (tCall (sp_is_int K) [] E0 (tCons (tVar 0) tNil)) (tAndV (tOp rGeI (tVar 0) (tVar 1)) (tOrV (tIsN (tVar 2)) (tOp rLeI (tVar 0) (tVar 2))))))
theorem pure_is_between (K : PySem.W.Frag) (vs : List V) (H : Hp) (Q : VK) (E : XK) (h : sp_is_between K vs H Q E) : t_is_between K { nx := fun _ H' => Q .non H', rt := Q } (start ["value", "low", "high"] vs) H := by
  obtain ⟨v, lo, hi, rfl, hk, hq⟩ := h
  unfold t_is_between
  walk_at "z"
  refine ⟨v, rfl, hk, ?_⟩
  walk_at "z"
  cases v with
  | int i =>
    simp only [isI, if_true]
    walk_at "z"
    unfold betwB at hq
    by_cases h1 : lo ≤ i
    · rw [if_pos h1]
      simpa [h1] using hq
    · rw [if_neg h1]
      simpa [h1] using hq
  | _ =>
    simp only [isI, Bool.false_eq_true, if_false]
    exact hq
theorem ok_is_between {P : Program} {w : World} {K : PySem.W.Frag} {mg : Str → Option Value} {base : Heap} (T : Tx K mg) : Okk P w K mg base 2 "is_between" ["value", "low", "high"] (sp_is_between K) := by
  obtain ⟨fd_is_int, F_is_int, b_is_int, g_is_int, k_is_int⟩ := ok_is_int (P := P) (w := w) (base := base) T
  obtain ⟨fd, F⟩ := T.f_is_between
  refine ⟨fd, F.ok sc_is_between (fun vs H Q E h => len_is_between h) (fun cdv A outer s H vs Q E hr h => ⟨t_is_between K, PSs.nox ?_, pure_is_between K vs H Q E h⟩), F.bindsN (fun _ _ _ _ _ _ us hl => match us, hl with | [_, _, _], _ => rfl), T.g_is_between, F.kp⟩
  exact (pss_one (ps_ret (pe_and (pe_call F_is_int (hr.mono (by decide)) rfl g_is_int k_is_int b_is_int .nil pass0 (pa_cons (pv 0) pa_nil)) (pe_and (pe_cmpR op_ge (pv 0) (pv 1) (nomark _)) (pe_one (pe_or (pe_cmp (pc_isN (pv 2))) (pe_one (pe_cmpR op_le (pv 0) (pv 2) (nomark _)))))))))
/-! ### undone_modulo -/
theorem sc_undone_modulo : FnScope ["number", "modulus"] ["number", "modulus"] (defScope s_undone_modulo) := ⟨rfl, rfl, rfl, by decide +kernel, rfl, by decide +kernel, by decide +kernel⟩
def sp_undone_modulo (K : PySem.W.Frag) : Sp := fun _ _ _ _ => False
theorem len_undone_modulo {K : PySem.W.Frag} {vs : List V} {H : Hp} {Q : VK} {E : XK} (h : sp_undone_modulo K vs H Q E) : vs.length = ["number", "modulus"].length := h.elim
theorem ok_undone_modulo {P : Program} {w : World} {K : PySem.W.Frag} {mg : Str → Option Value} {base : Heap} (T : Tx K mg) : Okk P w K mg base 2 "undone_modulo" ["number", "modulus"] (sp_undone_modulo K) := by
  obtain ⟨fd, F⟩ := T.f_undone_modulo
  exact ⟨fd, F.ok sc_undone_modulo (fun vs H Q E h => len_undone_modulo h) (fun cdv A outer s H vs Q E hr h => h.elim), F.bindsN (fun _ _ _ _ _ _ us hl => match us, hl with | [_, _], _ => rfl), T.g_undone_modulo, F.kp⟩
/-! ### prime_fits -/
theorem sc_prime_fits : FnScope ["value", "most"] ["value", "most"] (defScope s_prime_fits) := ⟨rfl, rfl, rfl, by decide +kernel, rfl, by decide +kernel, by decide +kernel⟩
def sp_prime_fits (K : PySem.W.Frag) : Sp := fun vs H Q _ => ∃ n hi : Int, vs = [.int n, .int hi] ∧ hi < 2 ^ 40 ∧ ∀ b : Bool, (b = true ↔ n ≤ hi ∧ PrimeI n) → Q (.bl b) H
theorem len_prime_fits {K : PySem.W.Frag} {vs : List V} {H : Hp} {Q : VK} {E : XK} (h : sp_prime_fits K vs H Q E) : vs.length = ["value", "most"].length := by
  obtain ⟨_, _, rfl, _⟩ := h
  rfl
def t_prime_fits (K : PySem.W.Frag) : TS := (tRet (tAndV (tCall (sp_is_between K) [] E0 (tCons (tVar 0) (tCons (tC (.int 2)) (tCons (tVar 1) tNil)))) (tCall (sp_has_no_parts K) [] E0 (tCons (tVar 0) tNil))))
theorem pure_prime_fits (K : PySem.W.Frag) (vs : List V) (H : Hp) (Q : VK) (E : XK) (h : sp_prime_fits K vs H Q E) : t_prime_fits K { nx := fun _ H' => Q .non H', rt := Q } (start ["value", "most"] vs) H := by
  obtain ⟨n, hi, rfl, hh, hq⟩ := h
  unfold t_prime_fits
  walk_at "z"
  refine ⟨_, _, _, rfl, trivial, ?_⟩
  unfold betwB
  walk_at "z"
  by_cases h1 : 2 ≤ n ∧ n ≤ hi
  · rw [if_pos h1]
    refine ⟨n, rfl, by omega, fun b hb => hq b (hb.trans ⟨fun h => ⟨h1.2, h⟩, fun h => h.2⟩)⟩
  · rw [if_neg h1]
    exact hq _ ⟨fun h => (by cases h), fun h => absurd ⟨h.2.1, h.1⟩ h1⟩
theorem ok_prime_fits {P : Program} {w : World} {K : PySem.W.Frag} {mg : Str → Option Value} {base : Heap} (T : Tx K mg) : Okk P w K mg base 3 "prime_fits" ["value", "most"] (sp_prime_fits K) := by
  obtain ⟨fd_is_between, F_is_between, b_is_between, g_is_between, k_is_between⟩ := ok_is_between (P := P) (w := w) (base := base) T
  obtain ⟨fd_has_no_parts, F_has_no_parts, b_has_no_parts, g_has_no_parts, k_has_no_parts⟩ := ok_has_no_parts (P := P) (w := w) (base := base) T
  obtain ⟨fd, F⟩ := T.f_prime_fits
  refine ⟨fd, F.ok sc_prime_fits (fun vs H Q E h => len_prime_fits h) (fun cdv A outer s H vs Q E hr h => ⟨t_prime_fits K, PSs.nox ?_, pure_prime_fits K vs H Q E h⟩), F.bindsN (fun _ _ _ _ _ _ us hl => match us, hl with | [_, _], _ => rfl), T.g_prime_fits, F.kp⟩
  exact (pss_one (ps_ret (pe_and (pe_call F_is_between (hr.mono (by decide)) rfl g_is_between k_is_between b_is_between .nil pass0 (pa_cons (pv 0) (pa_cons pe_int (pa_cons (pv 1) pa_nil)))) (pe_one (pe_call F_has_no_parts (hr.mono (by decide)) rfl g_has_no_parts k_has_no_parts b_has_no_parts .nil pass0 (pa_cons (pv 0) pa_nil))))))
/-! ### number_fits -/
theorem sc_number_fits : FnScope ["ground", "value", "limit", "top", "bottom"] ["ground", "value", "limit"] (defScope s_number_fits) := ⟨rfl, rfl, rfl, by decide +kernel, rfl, by decide +kernel, by decide +kernel⟩
def sp_number_fits (K : PySem.W.Frag) : Sp := fun vs H Q _ => ∃ (g : Int) (v : V) (l : Int), vs = [.int g, v, .int l] ∧ Kn2 H v ∧ ∀ b : Bool, (b = true ↔ NumV H g v l) → Q (.bl b) H
theorem len_number_fits {K : PySem.W.Frag} {vs : List V} {H : Hp} {Q : VK} {E : XK} (h : sp_number_fits K vs H Q E) : vs.length = ["ground", "value", "limit"].length := by
  obtain ⟨_, _, _, rfl, _⟩ := h
  rfl
def t_number_fits (K : PySem.W.Frag) : TS := (tSeq (tIfS (tTest (tOp rNe (tVar 0) (tC (.int 0)))) (tRet (tAndV (tCall (sp_is_int K) [] E0 (tCons (tVar 1) tNil)) (tChain rLeI rLtI (tC (.int 0)) (tVar 1) (tVar 0)))) tNext)
  (tSeq (tIfS (tOr (tNot (tB (tCB (rIsi K) (tCons (tVar 1) (tCons (tC (.ty "tuple")) tNil))))) (tTest (tOp rNe (tCB (rLenU K) (tCons (tVar 1) tNil)) (tC (.int 2))))) (tRet (tC (.bl false))) tNext)
  (tSeq (tAsg (tVar 1) (gTup K 2 (gCons (gName 3) (gCons (gName 4) gNil))))
  (tSeq (tIfS (tOr (tNot (tB (tCall (sp_is_below K) [] E0 (tCons (tVar 3) (tCons (tVar 2) tNil))))) (tNot (tB (tCall (sp_is_below K) [] E0 (tCons (tVar 4) (tCons (tVar 2) tNil)))))) (tRet (tC (.bl false))) tNext)
  (tRet (tAndV (tOp rGeI (tVar 4) (tC (.int 1))) (tOp rEq (tCB rGcd (tCons (tVar 3) (tCons (tVar 4) tNil))) (tC (.int 1)))))))))
theorem bfalse {p : Prop} (h : ¬ p) : (false = true ↔ p) := ⟨fun x => (by cases x), fun x => (h x).elim⟩
theorem TupV.inj {H : Hp} {v : V} {xs ys : List V} (a : TupV H v xs) (b : TupV H v ys) : xs = ys := by
  obtain ⟨p, e, h⟩ := a
  obtain ⟨q, e2, h2⟩ := b
  rw [e] at e2
  cases e2
  rw [h] at h2
  cases h2
  rfl
theorem pure_number_fits (K : PySem.W.Frag) (vs : List V) (H : Hp) (Q : VK) (E : XK) (h : sp_number_fits K vs H Q E) : t_number_fits K { nx := fun _ H' => Q .non H', rt := Q } (start ["ground", "value", "limit", "top", "bottom"] vs) H := by
  obtain ⟨g, v, l, rfl, hk, hq⟩ := h
  unfold t_number_fits
  walk_at "z"
  by_cases h0 : g = 0
  · subst h0
    walk_at "z"
    refine isi_kn_tuple hk.1 (fun xs ht => ?_) (fun hn => ?_)
    · walk_at "z"
      have hkx := hk.2 xs ht
      obtain ⟨a, rfl, ha⟩ := ht
      have ht : TupV H (V.ref a) xs := ⟨a, rfl, ha⟩
      refine lenT (sqT_of ha) ?_
      walk_at "z"
      match xs, ha, ht, hkx with
      | [], ha, ht, _ =>
        rw [if_pos (by simp)]
        refine hq false (bfalse fun h => ?_)
        rcases h with ⟨h, _⟩ | ⟨_, t, b, h, _⟩
        · exact h rfl
        · have := ht.inj h; simp at this
      | [x], ha, ht, _ =>
        rw [if_pos (by simp)]
        refine hq false (bfalse fun h => ?_)
        rcases h with ⟨h, _⟩ | ⟨_, t, b, h, _⟩
        · exact h rfl
        · have := ht.inj h; simp at this
      | x :: y :: z :: r, ha, ht, _ =>
        rw [if_pos (by simp only [List.length_cons]; omega)]
        refine hq false (bfalse fun h => ?_)
        rcases h with ⟨h, _⟩ | ⟨_, t, b, h, _⟩
        · exact h rfl
        · have := ht.inj h; simp at this
      | [x, y], ha, ht, hkx =>
        have e2 : ¬ ¬ (([x, y] : List V).length : Int) = 2 := fun c => c rfl
        rw [if_neg e2]
        refine ⟨[x, y], sqT_of ha, rfl, ?_⟩
        walk_at "z"
        refine ⟨x, l, rfl, hkx x (by simp), ?_⟩
        walk_at "z"
        by_cases hx : belowB x l = true
        · rw [hx]
          walk_at "z"
          refine ⟨y, l, rfl, hkx y (by simp), ?_⟩
          walk_at "z"
          by_cases hy : belowB y l = true
          · rw [hy]
            walk_at "z"
            obtain ⟨t, rfl, t1, t2⟩ := belowB_int hx
            obtain ⟨b, rfl, b1, b2⟩ := belowB_int hy
            walk_at "z"
            have iff : NumV H 0 (V.ref a) l ↔ 1 ≤ b ∧ Nat.gcd t.natAbs b.natAbs = 1 := by
              constructor
              · rintro (⟨h, _⟩ | ⟨_, t', b', h, _, _, h1, h2⟩)
                · exact absurd rfl h
                · have := ht.inj h
                  simp at this
                  obtain ⟨rfl, rfl⟩ := this
                  exact ⟨h1, h2⟩
              · rintro ⟨h1, h2⟩
                exact .inr ⟨rfl, t, b, ht, ⟨t1, t2⟩, ⟨b1, b2⟩, h1, h2⟩
            by_cases hb : 1 ≤ b
            · rw [if_pos hb]
              refine hq _ ?_
              rw [iff, decide_eq_true_eq]
              constructor
              · intro h; exact ⟨hb, by omega⟩
              · rintro ⟨_, h⟩; omega
            · rw [if_neg hb]
              exact hq false (bfalse fun h => hb (iff.mp h).1)
          · have hy2 : belowB y l = false := by simpa using hy
            rw [hy2]
            walk_at "z"
            refine hq false (bfalse fun h => ?_)
            rcases h with ⟨h, _⟩ | ⟨_, t, b, h, _, h3, _⟩
            · exact h rfl
            · have := ht.inj h
              simp at this
              rw [this.2] at hy
              exact hy (decide_eq_true h3)
        · have hx2 : belowB x l = false := by simpa using hx
          rw [hx2]
          walk_at "z"
          refine hq false (bfalse fun h => ?_)
          rcases h with ⟨h, _⟩ | ⟨_, t, b, h, h3, _⟩
          · exact h rfl
          · have := ht.inj h
            simp at this
            rw [this.1] at hx
            exact hx (decide_eq_true h3)
    · walk_at "z"
      refine hq false (bfalse fun h => ?_)
      rcases h with ⟨h, _⟩ | ⟨_, t, b, h, _⟩
      · exact h rfl
      · exact hn _ h
  · rw [if_pos h0]
    refine ⟨v, rfl, hk.1, ?_⟩
    walk_at "z"
    cases v with
    | int n =>
      simp only [isI, if_true]
      walk_at "z"
      have iff : NumV H g (V.int n) l ↔ 0 ≤ n ∧ n < g := by
        constructor
        · rintro (⟨_, m, e, h⟩ | ⟨h, _⟩)
          · cases e; exact h
          · exact absurd h h0
        · intro h
          exact .inl ⟨h0, n, rfl, h⟩
      by_cases h1 : 0 ≤ n
      · rw [if_pos h1]
        refine hq _ ?_
        rw [iff, decide_eq_true_eq]
        exact ⟨fun h => ⟨h1, h⟩, fun h => h.2⟩
      · rw [if_neg h1]
        exact hq false (bfalse fun h => h1 (iff.mp h).1)
    | _ =>
      simp only [isI, Bool.false_eq_true, if_false]
      refine hq false (bfalse ?_)
      rintro (⟨_, m, e, _⟩ | ⟨h, _⟩)
      · cases e
      · exact absurd h h0
theorem ok_number_fits {P : Program} {w : World} {K : PySem.W.Frag} {mg : Str → Option Value} {base : Heap} (T : Tx K mg) : Okk P w K mg base 3 "number_fits" ["ground", "value", "limit"] (sp_number_fits K) := by
  obtain ⟨fd_is_int, F_is_int, b_is_int, g_is_int, k_is_int⟩ := ok_is_int (P := P) (w := w) (base := base) T
  obtain ⟨fd_is_below, F_is_below, b_is_below, g_is_below, k_is_below⟩ := ok_is_below (P := P) (w := w) (base := base) T
  have hf_isinstance := T.n_isinstance
  have hf_len := T.n_len
  have hf_tuple := T.n_tuple
  have hb_gcd := T.b_gcd
  obtain ⟨fd, F⟩ := T.f_number_fits
  refine ⟨fd, F.ok sc_number_fits (fun vs H Q E h => len_number_fits h) (fun cdv A outer s H vs Q E hr h => ⟨t_number_fits K, PSs.nox ?_, pure_number_fits K vs H Q E h⟩), F.bindsN (fun _ _ _ _ _ _ us hl => match us, hl with | [_, _, _], _ => rfl), T.g_number_fits, F.kp⟩
  exact (pss_cons (ps_if (pt_cmpR op_ne (pv 0) pe_int (nomark _)) (pss_one (ps_ret (pe_and (pe_call F_is_int (hr.mono (by decide)) rfl g_is_int k_is_int b_is_int .nil pass0 (pa_cons (pv 1) pa_nil)) (pe_one (pe_chain op_le op_lt pe_int (pv 1) (pv 0)))))) pss_nil)
      (pss_cons (ps_if (PW.pt (pw_or (pt_not (pt_val (pe_callB call_isi (by rfl) hf_isinstance (by decide +kernel) (pa_cons (pv 1) (pa_cons (pe_bltn (v := .ty "tuple") rfl hf_tuple (by decide +kernel) rfl) pa_nil))))) (pw_or1 (pt_cmpR op_ne (pe_callB call_len_seq (by rfl) hf_len (by decide +kernel) (pa_cons (pv 1) pa_nil)) pe_int (nomark _))))) (pss_one (ps_ret pe_bl)) pss_nil)
      (pss_cons (ps_asg (pv 1) (pg_tup rfl (pgs_cons (pg_name (i := 3) sc_number_fits.nd rfl (by first | exact Or.inl rfl | exact Or.inr rfl)) (pgs_cons (pg_name (i := 4) sc_number_fits.nd rfl (by first | exact Or.inl rfl | exact Or.inr rfl)) pgs_nil))))
      (pss_cons (ps_if (PW.pt (pw_or (pt_not (pt_val (pe_call F_is_below (hr.mono (by decide)) rfl g_is_below k_is_below b_is_below .nil pass0 (pa_cons (pv 3) (pa_cons (pv 2) pa_nil))))) (pw_or1 (pt_not (pt_val (pe_call F_is_below (hr.mono (by decide)) rfl g_is_below k_is_below b_is_below .nil pass0 (pa_cons (pv 4) (pa_cons (pv 2) pa_nil)))))))) (pss_one (ps_ret pe_bl)) pss_nil)
      (pss_one (ps_ret (pe_and (pe_cmpR op_ge (pv 4) pe_int (nomark _)) (pe_one (pe_cmpR op_eq (pe_callBfun cr_gcd rfl hb_gcd (pa_cons (pv 3) (pa_cons (pv 4) pa_nil))) pe_int (nomark _))))))))))
/-! ### quotient -/
theorem sc_quotient : FnScope ["ground", "top", "bottom", "common"] ["ground", "top", "bottom"] (defScope s_quotient) := ⟨rfl, rfl, rfl, by decide +kernel, rfl, by decide +kernel, by decide +kernel⟩
/-- x over y is t over b in lowest terms -/
def Frac (t b x y : Int) : Prop := 1 ≤ y ∧ Nat.gcd x.natAbs y.natAbs = 1 ∧ x * b = t * y
def sp_quotient (K : PySem.W.Frag) : Sp := fun vs H Q _ => ∃ t b : Int, vs = [.int 0, .int t, .int b] ∧ b ≠ 0 ∧ b.natAbs < 2 ^ 250 ∧ ∀ p x y, H p = none → Frac t b x y → x.natAbs ≤ t.natAbs → y.natAbs ≤ b.natAbs → Q (.ref p) (upd H p (.tup [.int x, .int y]))
theorem len_quotient {K : PySem.W.Frag} {vs : List V} {H : Hp} {Q : VK} {E : XK} (h : sp_quotient K vs H Q E) : vs.length = ["ground", "top", "bottom"].length := by
  obtain ⟨_, _, rfl, _⟩ := h
  rfl
def t_quotient (K : PySem.W.Frag) : TS := (tSeq (tIfS (tTest (tOp rNe (tVar 0) (tC (.int 0)))) (tRet (tOp rModU (tOp rMulU (tVar 1) (tCall (sp_undone_modulo K) [] E0 (tCons (tVar 2) (tCons (tVar 0) tNil)))) (tVar 0))) tNext)
  (tSeq (tAsg (tCB rGcd (tCons (tVar 1) (tCons (tVar 2) tNil))) (gName 3))
  (tSeq (tIfS (tTest (tOp rLtI (tVar 2) (tC (.int 0)))) (tAsg (tUn rNeg (tVar 3)) (gName 3)) tNext)
  (tRet (tTup (tCons (tOp rDivZ (tVar 1) (tVar 3)) (tCons (tOp rDivZ (tVar 2) (tVar 3)) tNil)))))))
theorem frac_of {t b c : Int} (hc : c = ((Nat.gcd t.natAbs b.natAbs : Nat) : Int) ∧ 0 < b ∨ c = -((Nat.gcd t.natAbs b.natAbs : Nat) : Int) ∧ b < 0) : Frac t b (t.fdiv c) (b.fdiv c) ∧ (t.fdiv c).natAbs ≤ t.natAbs ∧ (b.fdiv c).natAbs ≤ b.natAbs ∧ c ≠ 0 ∧ c.natAbs ≤ b.natAbs := by
  have hb : b ≠ 0 := by rcases hc with ⟨_, h⟩ | ⟨_, h⟩ <;> omega
  have hg : 0 < Nat.gcd t.natAbs b.natAbs := Nat.gcd_pos_of_pos_right _ (by omega)
  have hca : c.natAbs = Nat.gcd t.natAbs b.natAbs := by rcases hc with ⟨h, _⟩ | ⟨h, _⟩ <;> omega
  have hc0 : c ≠ 0 := by omega
  have d1 : c ∣ t := Int.natAbs_dvd_natAbs.mp (by rw [hca]; exact Nat.gcd_dvd_left _ _)
  have d2 : c ∣ b := Int.natAbs_dvd_natAbs.mp (by rw [hca]; exact Nat.gcd_dvd_right _ _)
  rw [Int.fdiv_eq_ediv_of_dvd d1, Int.fdiv_eq_ediv_of_dvd d2]
  obtain ⟨x, rfl⟩ := d1
  obtain ⟨y, rfl⟩ := d2
  rw [Int.mul_ediv_cancel_left _ hc0, Int.mul_ediv_cancel_left _ hc0]
  have h1 : 1 ≤ c.natAbs := by omega
  refine ⟨⟨?_, ?_, by rw [Int.mul_left_comm, Int.mul_assoc]⟩, ?_, ?_, hc0, ?_⟩
  · have hy : y ≠ 0 := fun z => by rw [z] at hb; simp at hb
    refine Classical.byContradiction fun hn => ?_
    have hy2 : y < 0 := by omega
    rcases hc with ⟨h, h2⟩ | ⟨h, h2⟩
    · have := Int.mul_neg_of_pos_of_neg (show 0 < c by omega) hy2
      omega
    · have := Int.mul_pos_of_neg_of_neg (show c < 0 by omega) hy2
      omega
  · rw [Int.natAbs_mul, Int.natAbs_mul, Nat.gcd_mul_left] at hca
    have : c.natAbs * Nat.gcd x.natAbs y.natAbs = c.natAbs * 1 := by rw [← hca, Nat.mul_one]
    exact Nat.eq_of_mul_eq_mul_left (by omega) this
  · rw [Int.natAbs_mul]; exact Nat.le_mul_of_pos_left _ (by omega)
  · rw [Int.natAbs_mul]; exact Nat.le_mul_of_pos_left _ (by omega)
  · rw [Int.natAbs_mul]
    exact Nat.le_mul_of_pos_right _ (by
      have : y ≠ 0 := fun z => by rw [z] at hb; simp at hb
      omega)
theorem pure_quotient (K : PySem.W.Frag) (vs : List V) (H : Hp) (Q : VK) (E : XK) (h : sp_quotient K vs H Q E) : t_quotient K { nx := fun _ H' => Q .non H', rt := Q } (start ["ground", "top", "bottom", "common"] vs) H := by
  obtain ⟨t, b, rfl, hb, hb2, hq⟩ := h
  unfold t_quotient
  walk_at "z"
  have key : ∀ c : Int, (c = ((Nat.gcd t.natAbs b.natAbs : Nat) : Int) ∧ 0 < b ∨ c = -((Nat.gcd t.natAbs b.natAbs : Nat) : Int) ∧ b < 0) →
      CDivZ t c ∧ CDivZ b c ∧ 2 ≤ sizeLine ∧ ∀ p, H p = none → Q (.ref p) (upd H p (.tup [.int (t.fdiv c), .int (b.fdiv c)])) := fun c hc => by
    obtain ⟨f, e1, e2, e3, e4⟩ := frac_of hc
    exact ⟨divZ e3 (by omega), divZ e3 (by omega), by decide, fun p hp => hq p _ _ hp f e1 e2⟩
  by_cases h0 : b < 0
  · rw [if_pos h0]
    exact key _ (.inr ⟨rfl, h0⟩)
  · rw [if_neg h0]
    exact key _ (.inl ⟨rfl, by omega⟩)
theorem ok_quotient {P : Program} {w : World} {K : PySem.W.Frag} {mg : Str → Option Value} {base : Heap} (T : Tx K mg) : Okk P w K mg base 3 "quotient" ["ground", "top", "bottom"] (sp_quotient K) := by
  obtain ⟨fd_undone_modulo, F_undone_modulo, b_undone_modulo, g_undone_modulo, k_undone_modulo⟩ := ok_undone_modulo (P := P) (w := w) (base := base) T
  have hb_gcd := T.b_gcd
  obtain ⟨fd, F⟩ := T.f_quotient
  refine ⟨fd, F.ok sc_quotient (fun vs H Q E h => len_quotient h) (fun cdv A outer s H vs Q E hr h => ⟨t_quotient K, PSs.nox ?_, pure_quotient K vs H Q E h⟩), F.bindsN (fun _ _ _ _ _ _ us hl => match us, hl with | [_, _, _], _ => rfl), T.g_quotient, F.kp⟩
  exact (pss_cons (ps_if (pt_cmpR op_ne (pv 0) pe_int (nomark _)) (pss_one (ps_ret (pe_op op_mod (pe_op op_mulU (pv 1) (pe_call F_undone_modulo (hr.mono (by decide)) rfl g_undone_modulo k_undone_modulo b_undone_modulo .nil pass0 (pa_cons (pv 2) (pa_cons (pv 0) pa_nil)))) (pv 0)))) pss_nil)
      (pss_cons (ps_set (i := 3) sc_quotient.nd rfl (by first | exact Or.inl rfl | exact Or.inr rfl) (pe_callBfun cr_gcd rfl hb_gcd (pa_cons (pv 1) (pa_cons (pv 2) pa_nil))))
      (pss_cons (ps_if (pt_cmpR op_lt (pv 2) pe_int (nomark _)) (pss_one (ps_set (i := 3) sc_quotient.nd rfl (by first | exact Or.inl rfl | exact Or.inr rfl) (pe_un un_neg (pv 3)))) pss_nil)
      (pss_one (ps_ret (pe_tup (pa_cons (pe_op op_fdivZ (pv 1) (pv 3)) (pa_cons (pe_op op_fdivZ (pv 2) (pv 3)) pa_nil))))))))
/-! ### check_integer -/
theorem sc_check_integer : FnScope ["number"] ["number"] (defScope s_check_integer) := ⟨rfl, rfl, rfl, by decide +kernel, rfl, by decide +kernel, by decide +kernel⟩
def sp_check_integer (K : PySem.W.Frag) : Sp := fun vs H Q _ => ∃ n : Int, vs = [.int n] ∧ -(10 ^ 60) < n ∧ n < 10 ^ 60 ∧ Q .non H
theorem len_check_integer {K : PySem.W.Frag} {vs : List V} {H : Hp} {Q : VK} {E : XK} (h : sp_check_integer K vs H Q E) : vs.length = ["number"].length := by
  obtain ⟨_, rfl, _⟩ := h
  rfl
def t_check_integer (K : PySem.W.Frag) : TS := (tIfS (tNot (tB (tCall (sp_is_below K) [] E0 (tCons (tVar 0) (tCons (tC (.int 1000000000000000000000000000000000000000000000000000000000000)) tNil))))) tNever tNext)
theorem pure_check_integer (K : PySem.W.Frag) (vs : List V) (H : Hp) (Q : VK) (E : XK) (h : sp_check_integer K vs H Q E) : t_check_integer K { nx := fun _ H' => Q .non H', rt := Q } (start ["number"] vs) H := by
  obtain ⟨n, rfl, h1, h2, hq⟩ := h
  unfold t_check_integer
  walk_at "z"
  refine ⟨_, _, rfl, trivial, ?_⟩
  have e : belowB (V.int n) 1000000000000000000000000000000000000000000000000000000000000 = true := decide_eq_true ⟨by omega, by omega⟩
  rw [e]
  walk_at "z"
  exact hq
theorem ok_check_integer {P : Program} {w : World} {K : PySem.W.Frag} {mg : Str → Option Value} {base : Heap} (T : Tx K mg) : Okk P w K mg base 3 "check_integer" ["number"] (sp_check_integer K) := by
  obtain ⟨fd_is_below, F_is_below, b_is_below, g_is_below, k_is_below⟩ := ok_is_below (P := P) (w := w) (base := base) T
  obtain ⟨_, hc_SIXTY_DIGITS⟩ := T.c_SIXTY_DIGITS
  obtain ⟨fd, F⟩ := T.f_check_integer
  refine ⟨fd, F.ok sc_check_integer (fun vs H Q E h => len_check_integer h) (fun cdv A outer s H vs Q E hr h => ⟨t_check_integer K, PSs.nox ?_, pure_check_integer K vs H Q E h⟩), F.bindsN (fun _ _ _ _ _ _ us hl => match us, hl with | [_], _ => rfl), T.g_check_integer, F.kp⟩
  exact (pss_one (ps_if (pt_not (pt_val (pe_call F_is_below (hr.mono (by decide)) rfl g_is_below k_is_below b_is_below .nil pass0 (pa_cons (pv 0) (pa_cons (pe_glob rfl hc_SIXTY_DIGITS ⟨_, rfl⟩) pa_nil))))) pss_never pss_nil))
/-! ### ground_fits -/
theorem sc_ground_fits : FnScope ["value"] ["value"] (defScope s_ground_fits) := ⟨rfl, rfl, rfl, by decide +kernel, rfl, by decide +kernel, by decide +kernel⟩
def sp_ground_fits (K : PySem.W.Frag) : Sp := fun vs H Q _ => ∃ v : V, vs = [v] ∧ Kn H v ∧ ∀ b : Bool, (b = true ↔ GroundV v) → Q (.bl b) H
theorem len_ground_fits {K : PySem.W.Frag} {vs : List V} {H : Hp} {Q : VK} {E : XK} (h : sp_ground_fits K vs H Q E) : vs.length = ["value"].length := by
  obtain ⟨_, rfl, _⟩ := h
  rfl
def t_ground_fits (K : PySem.W.Frag) : TS := (tRet (tAndV (tCall (sp_is_int K) [] E0 (tCons (tVar 0) tNil)) (tOrV (tOp rEq (tVar 0) (tC (.int 0))) (tCall (sp_prime_fits K) [] E0 (tCons (tVar 0) (tCons (tC (.int 9999)) tNil))))))
theorem pure_ground_fits (K : PySem.W.Frag) (vs : List V) (H : Hp) (Q : VK) (E : XK) (h : sp_ground_fits K vs H Q E) : t_ground_fits K { nx := fun _ H' => Q .non H', rt := Q } (start ["value"] vs) H := by
  obtain ⟨v, rfl, hk, hq⟩ := h
  unfold t_ground_fits
  walk_at "z"
  refine ⟨v, rfl, hk, ?_⟩
  walk_at "z"
  cases v with
  | int n =>
    simp only [isI]
    walk_at "z"
    by_cases h3 : n = 0
    · rw [if_pos h3]
      exact hq _ ⟨fun _ => ⟨n, rfl, by omega, by omega, .inl h3⟩, fun _ => rfl⟩
    · rw [if_neg h3]
      refine ⟨n, _, rfl, by omega, fun b hb => hq b (hb.trans ⟨fun h => ⟨n, rfl, by have := h.2.1; omega, h.1, .inr h.2⟩, fun ⟨m, e, _, h4, h⟩ => ?_⟩)⟩
      cases e
      exact ⟨h4, h.resolve_left h3⟩
  | _ =>
    simp only [isI]
    walk_at "z"
    refine hq false ⟨fun h => (by cases h), fun ⟨m, e, _⟩ => (by cases e)⟩
theorem ok_ground_fits {P : Program} {w : World} {K : PySem.W.Frag} {mg : Str → Option Value} {base : Heap} (T : Tx K mg) : Okk P w K mg base 4 "ground_fits" ["value"] (sp_ground_fits K) := by
  obtain ⟨fd_is_int, F_is_int, b_is_int, g_is_int, k_is_int⟩ := ok_is_int (P := P) (w := w) (base := base) T
  obtain ⟨fd_prime_fits, F_prime_fits, b_prime_fits, g_prime_fits, k_prime_fits⟩ := ok_prime_fits (P := P) (w := w) (base := base) T
  obtain ⟨_, hc_LAST_GROUND⟩ := T.c_LAST_GROUND
  obtain ⟨fd, F⟩ := T.f_ground_fits
  refine ⟨fd, F.ok sc_ground_fits (fun vs H Q E h => len_ground_fits h) (fun cdv A outer s H vs Q E hr h => ⟨t_ground_fits K, PSs.nox ?_, pure_ground_fits K vs H Q E h⟩), F.bindsN (fun _ _ _ _ _ _ us hl => match us, hl with | [_], _ => rfl), T.g_ground_fits, F.kp⟩
  exact (pss_one (ps_ret (pe_and (pe_call F_is_int (hr.mono (by decide)) rfl g_is_int k_is_int b_is_int .nil pass0 (pa_cons (pv 0) pa_nil)) (pe_one (pe_or (pe_cmpR op_eq (pv 0) pe_int (nomark _)) (pe_one (pe_call F_prime_fits (hr.mono (by decide)) rfl g_prime_fits k_prime_fits b_prime_fits .nil pass0 (pa_cons (pv 0) (pa_cons (pe_glob rfl hc_LAST_GROUND ⟨_, rfl⟩) pa_nil)))))))))
/-! ### fraction -/
theorem sc_fraction : FnScope ["top", "bottom"] ["top", "bottom"] (defScope s_fraction) := ⟨rfl, rfl, rfl, by decide +kernel, rfl, by decide +kernel, by decide +kernel⟩
def sp_fraction (K : PySem.W.Frag) : Sp := fun vs H Q _ => ∃ t b : Int, vs = [.int t, .int b] ∧ -(10 ^ 60) < t ∧ t < 10 ^ 60 ∧ -(10 ^ 60) < b ∧ b < 10 ^ 60 ∧ b ≠ 0 ∧ ∀ p x y, H p = none → Frac t b x y → x.natAbs ≤ t.natAbs → y.natAbs ≤ b.natAbs → Q (.ref p) (upd H p (.tup [.int x, .int y]))
theorem len_fraction {K : PySem.W.Frag} {vs : List V} {H : Hp} {Q : VK} {E : XK} (h : sp_fraction K vs H Q E) : vs.length = ["top", "bottom"].length := by
  obtain ⟨_, _, rfl, _⟩ := h
  rfl
def t_fraction (K : PySem.W.Frag) : TS := (tSeq (tDrop (tCall (sp_check_integer K) [] E0 (tCons (tVar 0) tNil)))
  (tSeq (tDrop (tCall (sp_check_integer K) [] E0 (tCons (tVar 1) tNil)))
  (tSeq (tIfS (tTest (tOp rEq (tVar 1) (tC (.int 0)))) tNever tNext)
  (tRet (tCall (sp_quotient K) [] E0 (tCons (tC (.int 0)) (tCons (tVar 0) (tCons (tVar 1) tNil))))))))
theorem pure_fraction (K : PySem.W.Frag) (vs : List V) (H : Hp) (Q : VK) (E : XK) (h : sp_fraction K vs H Q E) : t_fraction K { nx := fun _ H' => Q .non H', rt := Q } (start ["top", "bottom"] vs) H := by
  obtain ⟨t, b, rfl, t1, t2, b1, b2, hb, hq⟩ := h
  unfold t_fraction
  walk_at "z"
  refine ⟨t, rfl, t1, t2, ?_⟩
  walk_at "z"
  refine ⟨b, rfl, b1, b2, ?_⟩
  walk_at "z"
  rw [if_neg hb]
  exact ⟨t, b, rfl, hb, by omega, hq⟩

theorem ok_fraction {P : Program} {w : World} {K : PySem.W.Frag} {mg : Str → Option Value} {base : Heap} (T : Tx K mg) : Okk P w K mg base 4 "fraction" ["top", "bottom"] (sp_fraction K) := by
  obtain ⟨fd_quotient, F_quotient, b_quotient, g_quotient, k_quotient⟩ := ok_quotient (P := P) (w := w) (base := base) T
  obtain ⟨fd_check_integer, F_check_integer, b_check_integer, g_check_integer, k_check_integer⟩ := ok_check_integer (P := P) (w := w) (base := base) T
  obtain ⟨fd, F⟩ := T.f_fraction
  refine ⟨fd, F.ok sc_fraction (fun vs H Q E h => len_fraction h) (fun cdv A outer s H vs Q E hr h => ⟨t_fraction K, PSs.nox ?_, pure_fraction K vs H Q E h⟩), F.bindsN (fun _ _ _ _ _ _ us hl => match us, hl with | [_, _], _ => rfl), T.g_fraction, F.kp⟩
  exact (pss_cons (ps_expr (pe_call F_check_integer (hr.mono (by decide)) rfl g_check_integer k_check_integer b_check_integer .nil pass0 (pa_cons (pv 0) pa_nil)))
      (pss_cons (ps_expr (pe_call F_check_integer (hr.mono (by decide)) rfl g_check_integer k_check_integer b_check_integer .nil pass0 (pa_cons (pv 1) pa_nil)))
      (pss_cons (ps_if (pt_cmpR op_eq (pv 1) pe_int (nomark _)) pss_never pss_nil)
      (pss_one (ps_ret (pe_call F_quotient (hr.mono (by decide)) rfl g_quotient k_quotient b_quotient .nil pass0 (pa_cons pe_int (pa_cons (pv 0) (pa_cons (pv 1) pa_nil)))))))))
/-! ### check_ground -/
theorem sc_check_ground : FnScope ["ground"] ["ground"] (defScope s_check_ground) := ⟨rfl, rfl, rfl, by decide +kernel, rfl, by decide +kernel, by decide +kernel⟩
def sp_check_ground (K : PySem.W.Frag) : Sp := fun vs H Q _ => ∃ v : V, vs = [v] ∧ Kn H v ∧ GroundV v ∧ Q .non H
theorem len_check_ground {K : PySem.W.Frag} {vs : List V} {H : Hp} {Q : VK} {E : XK} (h : sp_check_ground K vs H Q E) : vs.length = ["ground"].length := by
  obtain ⟨_, rfl, _⟩ := h
  rfl
def t_check_ground (K : PySem.W.Frag) : TS := (tIfS (tNot (tB (tCall (sp_ground_fits K) [] E0 (tCons (tVar 0) tNil)))) tNever tNext)
theorem pure_check_ground (K : PySem.W.Frag) (vs : List V) (H : Hp) (Q : VK) (E : XK) (h : sp_check_ground K vs H Q E) : t_check_ground K { nx := fun _ H' => Q .non H', rt := Q } (start ["ground"] vs) H := by
  obtain ⟨v, rfl, hk, hg, hq⟩ := h
  unfold t_check_ground
  walk_at "z"
  refine ⟨v, rfl, hk, fun b hb => ?_⟩
  walk_at "z"
  rw [hb.mpr hg]
  walk_at "z"
  exact hq
theorem ok_check_ground {P : Program} {w : World} {K : PySem.W.Frag} {mg : Str → Option Value} {base : Heap} (T : Tx K mg) : Okk P w K mg base 5 "check_ground" ["ground"] (sp_check_ground K) := by
  obtain ⟨fd_ground_fits, F_ground_fits, b_ground_fits, g_ground_fits, k_ground_fits⟩ := ok_ground_fits (P := P) (w := w) (base := base) T
  obtain ⟨fd, F⟩ := T.f_check_ground
  refine ⟨fd, F.ok sc_check_ground (fun vs H Q E h => len_check_ground h) (fun cdv A outer s H vs Q E hr h => ⟨t_check_ground K, PSs.nox ?_, pure_check_ground K vs H Q E h⟩), F.bindsN (fun _ _ _ _ _ _ us hl => match us, hl with | [_], _ => rfl), T.g_check_ground, F.kp⟩
  exact (pss_one (ps_if (pt_not (pt_val (pe_call F_ground_fits (hr.mono (by decide)) rfl g_ground_fits k_ground_fits b_ground_fits .nil pass0 (pa_cons (pv 0) pa_nil)))) pss_never pss_nil))
/-! ### is_ground -/
theorem sc_is_ground : FnScope ["value"] ["value"] (defScope s_is_ground) := ⟨rfl, rfl, rfl, by decide +kernel, rfl, by decide +kernel, by decide +kernel⟩
def sp_is_ground (K : PySem.W.Frag) : Sp := fun vs H Q _ => ∃ v : V, vs = [v] ∧ Kn H v ∧ ∀ b : Bool, (b = true ↔ GroundV v) → Q (.bl b) H
theorem len_is_ground {K : PySem.W.Frag} {vs : List V} {H : Hp} {Q : VK} {E : XK} (h : sp_is_ground K vs H Q E) : vs.length = ["value"].length := by
  obtain ⟨_, rfl, _⟩ := h
  rfl
def t_is_ground (K : PySem.W.Frag) : TS := (tRet (tCall (sp_ground_fits K) [] E0 (tCons (tVar 0) tNil)))
theorem pure_is_ground (K : PySem.W.Frag) (vs : List V) (H : Hp) (Q : VK) (E : XK) (h : sp_is_ground K vs H Q E) : t_is_ground K { nx := fun _ H' => Q .non H', rt := Q } (start ["value"] vs) H := by
  obtain ⟨v, rfl, hk, hq⟩ := h
  unfold t_is_ground
  walk_at "z"
  exact ⟨v, rfl, hk, hq⟩
theorem ok_is_ground {P : Program} {w : World} {K : PySem.W.Frag} {mg : Str → Option Value} {base : Heap} (T : Tx K mg) : Okk P w K mg base 5 "is_ground" ["value"] (sp_is_ground K) := by
  obtain ⟨fd_ground_fits, F_ground_fits, b_ground_fits, g_ground_fits, k_ground_fits⟩ := ok_ground_fits (P := P) (w := w) (base := base) T
  obtain ⟨fd, F⟩ := T.f_is_ground
  refine ⟨fd, F.ok sc_is_ground (fun vs H Q E h => len_is_ground h) (fun cdv A outer s H vs Q E hr h => ⟨t_is_ground K, PSs.nox ?_, pure_is_ground K vs H Q E h⟩), F.bindsN (fun _ _ _ _ _ _ us hl => match us, hl with | [_], _ => rfl), T.g_is_ground, F.kp⟩
  exact (pss_one (ps_ret (pe_call F_ground_fits (hr.mono (by decide)) rfl g_ground_fits k_ground_fits b_ground_fits .nil pass0 (pa_cons (pv 0) pa_nil))))
/-! ### is_number -/
theorem sc_is_number : FnScope ["ground", "value"] ["ground", "value"] (defScope s_is_number) := ⟨rfl, rfl, rfl, by decide +kernel, rfl, by decide +kernel, by decide +kernel⟩
def sp_is_number (K : PySem.W.Frag) : Sp := fun vs H Q _ => ∃ (g : Int) (v : V), vs = [.int g, v] ∧ GroundV (.int g) ∧ Kn2 H v ∧ ∀ b : Bool, (b = true ↔ NumV H g v (10 ^ 60)) → Q (.bl b) H
theorem len_is_number {K : PySem.W.Frag} {vs : List V} {H : Hp} {Q : VK} {E : XK} (h : sp_is_number K vs H Q E) : vs.length = ["ground", "value"].length := by
  obtain ⟨_, _, rfl, _⟩ := h
  rfl
def t_is_number (K : PySem.W.Frag) : TS := (tSeq (tDrop (tCall (sp_check_ground K) [] E0 (tCons (tVar 0) tNil)))
  (tRet (tCall (sp_number_fits K) [] E0 (tCons (tVar 0) (tCons (tVar 1) (tCons (tC (.int 1000000000000000000000000000000000000000000000000000000000000)) tNil))))))
theorem pure_is_number (K : PySem.W.Frag) (vs : List V) (H : Hp) (Q : VK) (E : XK) (h : sp_is_number K vs H Q E) : t_is_number K { nx := fun _ H' => Q .non H', rt := Q } (start ["ground", "value"] vs) H := by
  obtain ⟨g, v, rfl, hg, hk, hq⟩ := h
  unfold t_is_number
  walk_at "z"
  refine ⟨_, rfl, trivial, hg, ?_⟩
  walk_at "z"
  exact ⟨g, v, _, rfl, hk, hq⟩
theorem ok_is_number {P : Program} {w : World} {K : PySem.W.Frag} {mg : Str → Option Value} {base : Heap} (T : Tx K mg) : Okk P w K mg base 6 "is_number" ["ground", "value"] (sp_is_number K) := by
  obtain ⟨fd_number_fits, F_number_fits, b_number_fits, g_number_fits, k_number_fits⟩ := ok_number_fits (P := P) (w := w) (base := base) T
  obtain ⟨fd_check_ground, F_check_ground, b_check_ground, g_check_ground, k_check_ground⟩ := ok_check_ground (P := P) (w := w) (base := base) T
  obtain ⟨_, hc_SIXTY_DIGITS⟩ := T.c_SIXTY_DIGITS
  obtain ⟨fd, F⟩ := T.f_is_number
  refine ⟨fd, F.ok sc_is_number (fun vs H Q E h => len_is_number h) (fun cdv A outer s H vs Q E hr h => ⟨t_is_number K, PSs.nox ?_, pure_is_number K vs H Q E h⟩), F.bindsN (fun _ _ _ _ _ _ us hl => match us, hl with | [_, _], _ => rfl), T.g_is_number, F.kp⟩
  exact (pss_cons (ps_expr (pe_call F_check_ground (hr.mono (by decide)) rfl g_check_ground k_check_ground b_check_ground .nil pass0 (pa_cons (pv 0) pa_nil)))
      (pss_one (ps_ret (pe_call F_number_fits (hr.mono (by decide)) rfl g_number_fits k_number_fits b_number_fits .nil pass0 (pa_cons (pv 0) (pa_cons (pv 1) (pa_cons (pe_glob rfl hc_SIXTY_DIGITS ⟨_, rfl⟩) pa_nil)))))))
/-! ### whole -/
theorem sc_whole : FnScope ["ground", "number"] ["ground", "number"] (defScope s_whole) := ⟨rfl, rfl, rfl, by decide +kernel, rfl, by decide +kernel, by decide +kernel⟩
def sp_whole (K : PySem.W.Frag) : Sp := fun vs H Q _ => ∃ g n : Int, vs = [.int g, .int n] ∧ GroundV (.int g) ∧ -(10 ^ 60) < n ∧ n < 10 ^ 60 ∧ (g = 0 → ∀ p, H p = none → Q (.ref p) (upd H p (.tup [.int n, .int 1]))) ∧ (g ≠ 0 → Q (.int (n % g)) H)
theorem len_whole {K : PySem.W.Frag} {vs : List V} {H : Hp} {Q : VK} {E : XK} (h : sp_whole K vs H Q E) : vs.length = ["ground", "number"].length := by
  obtain ⟨_, _, rfl, _⟩ := h
  rfl
def t_whole (K : PySem.W.Frag) : TS := (tSeq (tDrop (tCall (sp_check_ground K) [] E0 (tCons (tVar 0) tNil)))
  (tSeq (tDrop (tCall (sp_check_integer K) [] E0 (tCons (tVar 1) tNil)))
  (tRet (tCall (sp_number_of K) [] E0 (tCons (tVar 0) (tCons (tVar 1) tNil))))))
theorem pure_whole (K : PySem.W.Frag) (vs : List V) (H : Hp) (Q : VK) (E : XK) (h : sp_whole K vs H Q E) : t_whole K { nx := fun _ H' => Q .non H', rt := Q } (start ["ground", "number"] vs) H := by
  obtain ⟨g, n, rfl, hg, n1, n2, h1, h2⟩ := h
  unfold t_whole
  walk_at "z"
  refine ⟨_, rfl, trivial, hg, ?_⟩
  walk_at "z"
  refine ⟨n, rfl, n1, n2, ?_⟩
  walk_at "z"
  obtain ⟨m, e, hm, _⟩ := hg
  cases e
  exact ⟨_, _, rfl, hm, h1, h2⟩
theorem ok_whole {P : Program} {w : World} {K : PySem.W.Frag} {mg : Str → Option Value} {base : Heap} (T : Tx K mg) : Okk P w K mg base 6 "whole" ["ground", "number"] (sp_whole K) := by
  obtain ⟨fd_number_of, F_number_of, b_number_of, g_number_of, k_number_of⟩ := ok_number_of (P := P) (w := w) (base := base) T
  obtain ⟨fd_check_ground, F_check_ground, b_check_ground, g_check_ground, k_check_ground⟩ := ok_check_ground (P := P) (w := w) (base := base) T
  obtain ⟨fd_check_integer, F_check_integer, b_check_integer, g_check_integer, k_check_integer⟩ := ok_check_integer (P := P) (w := w) (base := base) T
  obtain ⟨fd, F⟩ := T.f_whole
  refine ⟨fd, F.ok sc_whole (fun vs H Q E h => len_whole h) (fun cdv A outer s H vs Q E hr h => ⟨t_whole K, PSs.nox ?_, pure_whole K vs H Q E h⟩), F.bindsN (fun _ _ _ _ _ _ us hl => match us, hl with | [_, _], _ => rfl), T.g_whole, F.kp⟩
  exact (pss_cons (ps_expr (pe_call F_check_ground (hr.mono (by decide)) rfl g_check_ground k_check_ground b_check_ground .nil pass0 (pa_cons (pv 0) pa_nil)))
      (pss_cons (ps_expr (pe_call F_check_integer (hr.mono (by decide)) rfl g_check_integer k_check_integer b_check_integer .nil pass0 (pa_cons (pv 1) pa_nil)))
      (pss_one (ps_ret (pe_call F_number_of (hr.mono (by decide)) rfl g_number_of k_number_of b_number_of .nil pass0 (pa_cons (pv 0) (pa_cons (pv 1) pa_nil)))))))
/-! dice -/
def Dice (H : Hp) (d : Addr) : Prop := ∃ a b c : Int, H d = some (.lst [.int a, .int b, .int c])
theorem Keep.refl (d : Addr) (H : Hp) : Keep d H H := fun _ _ _ h => h
theorem Keep.trans {d : Addr} {H H1 H2 : Hp} (a : Keep d H H1) (b : Keep d H1 H2) : Keep d H H2 := fun c o n h => b c o n (a c o n h)
theorem Keep.put {d : Addr} {H H1 : Hp} {o : HO} (a : Keep d H H1) : Keep d H (L2.upd H1 d o) := fun b u n h => by rw [upd_ne n]; exact a b u n h
theorem Keep.same {d : Addr} {H H1 H2 : Hp} (a : Keep d H H1) (b : Same H1 H2) : Keep d H H2 := fun c o n h => b c o (a c o n h)
theorem Dice.same {d : Addr} {H H1 : Hp} (a : Dice H d) (b : Same H H1) : Dice H1 d := by
  obtain ⟨x, y, z, h⟩ := a
  exact ⟨x, y, z, b _ _ h⟩
theorem Keep.new {d p : Addr} {H H1 : Hp} {o : HO} (a : Keep d H H1) (hp : H1 p = none) : Keep d H (L2.upd H1 p o) := a.same (same_upd hp)
/-- a list of dice made on the way is nothing of the old heap -/
theorem Keep.out {d : Addr} {H0 H H1 : Hp} (s : Same H0 H) (n : H0 d = none) (a : Keep d H H1) : Same H0 H1 := fun b o h => a b o (ne_of_none h n) (s b o h)
theorem cpow {i j : Int} (h : 0 ≤ j ∧ j ≤ 1000000 ∧ i.natAbs < 2 ^ 64) : CPow i j := h
theorem divM {i m : Int} (h : 0 < m) (h2 : m < 2 ^ 250) : CDivW i m := wide_div (b := 250) h (by omega) (by decide) (by decide)
theorem atI_nat {α : Type} {xs : List α} {i : Nat} {x : α} (h : xs[i]? = some x) : atI xs (i : Int) = some x := by
  have hl := (List.getElem?_eq_some_iff.mp h).1
  unfold atI ixN
  rw [if_pos (by omega), if_pos (by omega)]
  exact h
theorem Kn.back {H H' : Hp} {v : V} {xs : List V} (k : Kn H v) (s : Same H H') (t : TupV H' v xs) : TupV H v xs := by
  obtain ⟨a, rfl, h⟩ := t
  rcases k with ⟨ys, h1⟩ | ⟨ys, h1⟩ | ⟨ys, h1⟩
  · have := s _ _ h1; rw [h] at this; cases this
  · have := s _ _ h1; rw [h] at this; cases this
    exact ⟨a, rfl, h1⟩
  · have := s _ _ h1; rw [h] at this; cases this
theorem Kn2.same {H H' : Hp} {v : V} (k : Kn2 H v) (s : Same H H') : Kn2 H' v :=
  ⟨k.1.same s, fun xs t x hx => (k.2 xs (k.1.back s t) x hx).same s⟩
theorem sqT_same {K : PySem.W.Frag} {H H' : Hp} {a : Addr} {xs : List V} (h : SqT K H a xs) (s : Same H H') : SqT K H' a xs := by
  rcases h with (h | ⟨o, h⟩) | h
  · exact .inl (.inl (s _ _ h))
  · exact .inl (.inr ⟨o, s _ _ h⟩)
  · exact .inr h
mutual
theorem dp_same {K : PySem.W.Frag} {H H' : Hp} (s : Same H H') : ∀ {v : V} {d : PyData}, Dp K H v d → Dp K H' v d
  | _, _, .non => .non
  | _, _, .bl b => .bl b
  | _, _, .int i => .int i
  | _, _, .str x => .str x
  | _, _, .lst h r => .lst (s.seq h) (dpAll_same s r)
  | _, _, .tup h r => .tup (sqT_same h s) (dpAll_same s r)
theorem dpAll_same {K : PySem.W.Frag} {H H' : Hp} (s : Same H H') : ∀ {vs : List V} {ds : List PyData}, DpAll K H vs ds → DpAll K H' vs ds
  | _, _, .nil => .nil
  | _, _, .cons h r => .cons (dp_same s h) (dpAll_same s r)
end
/-- data that can be compared -/
def Dt (K : PySem.W.Frag) (H : Hp) (v : V) : Prop := ∃ d, Dp K H v d ∧ PyData.canLay0 d = true ∧ PyData.depth d ≤ 50
theorem Dt.same {K : PySem.W.Frag} {H H' : Hp} {v : V} (k : Dt K H v) (s : Same H H') : Dt K H' v := by
  obtain ⟨d, h, c⟩ := k
  exact ⟨d, dp_same s h, c⟩
theorem dt_list {K : PySem.W.Frag} {H : Hp} : ∀ {vs : List V}, (∀ v ∈ vs, Dt K H v) → ∃ ds, DpAll K H vs ds ∧ ds.length = vs.length ∧ PyData.canLayAll0 ds = true ∧ PyData.depthAll ds ≤ 50
  | [], _ => ⟨[], .nil, rfl, rfl, by simp [PyData.depthAll]⟩
  | v :: r, h => by
    obtain ⟨d, h1, h2, h3⟩ := h v List.mem_cons_self
    obtain ⟨ds, g1, g2, g3, g4⟩ := dt_list (vs := r) fun x hx => h x (List.mem_cons_of_mem _ hx)
    refine ⟨d :: ds, .cons h1 g1, by simp [g2], ?_, ?_⟩
    · simp only [PyData.canLayAll0, h2, g3, Bool.and_self]
    · simp only [PyData.depthAll]; omega
theorem eqv_nil : ∀ ds : List PyData, PyData.eqvAll ds [] = decide (ds.length = 0)
  | [] => rfl
  | _ :: _ => rfl
/-- is a list of such data empty -/
theorem cmp_nil {K : PySem.W.Frag} {H : Hp} {p q : Addr} {vs : List V} (h : H p = some (.lst vs)) (h2 : H q = some (.lst [])) (hd : ∀ v ∈ vs, Dt K H v) {Q : VK} :
    (Q (.bl (decide (vs.length = 0))) H → rEqD K (.ref p) (.ref q) H Q) ∧ (Q (.bl (!decide (vs.length = 0))) H → rNeD K (.ref p) (.ref q) H Q) := by
  obtain ⟨ds, g1, g2, g3, g4⟩ := dt_list hd
  have e : PyData.eqv (.list ds) (.list []) = decide (vs.length = 0) := by
    simp only [PyData.eqv, eqv_nil, g2]
  have c1 : PyData.canLay0 (.list ds) = true := by
    simp only [PyData.canLay0]
    exact g3
  have c2 : PyData.depth (.list ds) ≤ 64 := by
    simp only [PyData.depth]
    omega
  have s1 : SeqAt.shaped (.list ds) = true := by
    unfold SeqAt.shaped
    rw [c1, decide_eq_true c2]
    rfl
  exact ⟨fun h9 => ⟨_, _, .lst (sqL_of h) g1, .lst (sqL_of h2) .nil, s1, rfl, by rw [e]; exact h9⟩, fun h9 => ⟨_, _, .lst (sqL_of h) g1, .lst (sqL_of h2) .nil, s1, rfl, by rw [e]; exact h9⟩⟩
theorem dt_int {K : PySem.W.Frag} {H : Hp} (i : Int) : Dt K H (.int i) := ⟨_, .int i, rfl, by simp [PyData.depth]⟩
def KD (K : PySem.W.Frag) (H : Hp) (v : V) : Prop := ∀ xs, TupV H v xs → ∀ x ∈ xs, Dt K H x
/-- whether n is 0 or a prime, by the divisors below 100 -/
def trial (n : Int) (i : Nat) : Option V := if 2 + (i : Int) < n ∧ n % (2 + (i : Int)) = 0 then some (.int (2 + (i : Int))) else none
theorem trial_nil {n : Int} (h0 : 0 ≤ n) (h1 : n < 10000) (h2 : n ≠ 1) : (outL (trial n) 98).length = 0 ↔ (n = 0 ∨ PrimeI n) := by
  have e : (outL (trial n) 98).length = 0 ↔ ∀ i : Nat, i < 98 → ¬ (2 + (i : Int) < n ∧ n % (2 + (i : Int)) = 0) := by
    unfold outL
    rw [List.length_eq_zero_iff, List.filterMap_eq_nil_iff]
    constructor
    · intro h i hi c
      have := h i (List.mem_range.mpr hi)
      rw [trial, if_pos c] at this
      cases this
    · intro h i hi
      rw [trial, if_neg (h i (List.mem_range.mp hi))]
  rw [e]
  constructor
  · intro h
    by_cases hn : n = 0
    · exact .inl hn
    · refine .inr ⟨by omega, fun k k1 k2 kd => ?_⟩
      by_cases c : k < 100
      · refine h (k - 2).toNat (by omega) ?_
        rw [show (2 : Int) + ((k - 2).toNat : Int) = k by omega]
        exact ⟨k2, Int.emod_eq_zero_of_dvd kd⟩
      · obtain ⟨q, rfl⟩ := kd
        have q1 : 2 ≤ q := by
          by_cases q0 : q ≤ 0
          · have := Int.mul_le_mul_of_nonneg_left q0 (show 0 ≤ k by omega)
            omega
          · by_cases q1 : q = 1
            · subst q1; omega
            · omega
        have q2 : q < 100 := by
          refine Classical.byContradiction fun c2 => ?_
          have := Int.mul_le_mul (show (100 : Int) ≤ k by omega) (show (100 : Int) ≤ q by omega) (by omega) (by omega)
          omega
        have q3 := Int.mul_le_mul (show (2 : Int) ≤ k by omega) (Int.le_refl q) (by omega) (by omega)
        refine h (q - 2).toNat (by omega) ?_
        rw [show (2 : Int) + ((q - 2).toNat : Int) = q by omega]
        exact ⟨by omega, Int.emod_eq_zero_of_dvd (Int.dvd_mul_left k q)⟩
  · rintro (h | h) i hi ⟨c1, c2⟩
    · omega
    · exact h.2 (2 + (i : Int)) (by omega) c1 (Int.dvd_of_emod_eq_zero c2)
theorem keep_new {H : Hp} {b p : Addr} {u o : HO} (h : H b = some u) (hn : H p = none) : upd H p o b = some u := by
  rw [upd_ne (ne_of_none h hn)]; exact h
local macro_rules | `(tactic| walk_at "at") => `(tactic| (repeat (first | exact upd_same | refine keep_new ?_ (by assumption))))
local macro_rules | `(tactic| walk_at "same") => `(tactic| (repeat (first | exact Same.refl _ | refine same_new ?_ (by assumption))))
/-- a value of a known kind whose members can be compared -/
def Vg (K : PySem.W.Frag) (H : Hp) (v : V) : Prop := Kn2 H v ∧ KD K H v
theorem vg_plain {K : PySem.W.Frag} {H : Hp} {v : V} (k : Kn H v) (n : ∀ xs, ¬ TupV H v xs) : Vg K H v := ⟨⟨k, fun xs t => absurd t (n xs)⟩, fun xs t => absurd t (n xs)⟩
theorem vg_int {K : PySem.W.Frag} {H : Hp} {i : Int} : Vg K H (.int i) := vg_plain trivial fun _ ⟨_, e, _⟩ => by cases e
theorem vg_bl {K : PySem.W.Frag} {H : Hp} {i : Bool} : Vg K H (.bl i) := vg_plain trivial fun _ ⟨_, e, _⟩ => by cases e
theorem vg_str {K : PySem.W.Frag} {H : Hp} {i : Str} : Vg K H (.str i) := vg_plain trivial fun _ ⟨_, e, _⟩ => by cases e
theorem vg_non {K : PySem.W.Frag} {H : Hp} : Vg K H .non := vg_plain trivial fun _ ⟨_, e, _⟩ => by cases e
theorem vg_lst {K : PySem.W.Frag} {H : Hp} {p : Addr} {xs : List V} (h : H p = some (.lst xs)) : Vg K H (.ref p) := vg_plain (.inl ⟨xs, h⟩) fun _ ⟨_, e, h2⟩ => by cases e; rw [h] at h2; cases h2
theorem vg_dK {K : PySem.W.Frag} {H : Hp} {p : Addr} {xs : List (Key × V)} (h : H p = some (.dK xs)) : Vg K H (.ref p) := vg_plain (.inr (.inr ⟨xs, h⟩)) fun _ ⟨_, e, h2⟩ => by cases e; rw [h] at h2; cases h2
theorem vg_tup {K : PySem.W.Frag} {H : Hp} {p : Addr} {xs : List V} (h : H p = some (.tup xs)) (hx : ∀ x ∈ xs, Kn H x ∧ Dt K H x) : Vg K H (.ref p) := by
  have e : ∀ ys, TupV H (.ref p) ys → ys = xs := fun ys ⟨a, e, h2⟩ => by cases e; rw [h] at h2; cases h2; rfl
  exact ⟨⟨.inr (.inl ⟨xs, h⟩), fun ys t x hx2 => (hx x (e ys t ▸ hx2)).1⟩, fun ys t x hx2 => (hx x (e ys t ▸ hx2)).2⟩
theorem el_int {K : PySem.W.Frag} {H : Hp} (i : Int) : Kn H (.int i) ∧ Dt K H (.int i) := ⟨trivial, dt_int i⟩
theorem el_bl {K : PySem.W.Frag} {H : Hp} (i : Bool) : Kn H (.bl i) ∧ Dt K H (.bl i) := ⟨trivial, _, .bl i, rfl, by simp [PyData.depth]⟩
theorem el_non {K : PySem.W.Frag} {H : Hp} : Kn H .non ∧ Dt K H .non := ⟨trivial, _, .non, rfl, by simp [PyData.depth]⟩
theorem el_str {K : PySem.W.Frag} {H : Hp} {x : Str} (h : PyData.strOk x = true) : Kn H (.str x) ∧ Dt K H (.str x) := ⟨trivial, _, .str x, by simp only [PyData.canLay0]; exact h, by simp [PyData.depth]⟩
theorem strOk_of (s : String) : PyData.strOk (PySem.Str.ofString s) = true := by
  have e : s.toByteArray.data.toList = s.toList.flatMap String.utf8EncodeChar := by
    have h : ∀ l : List Char, (String.ofList l).toByteArray.data.toList = l.flatMap String.utf8EncodeChar := by
      intro l
      simp [String.toByteArray_ofList, List.utf8Encode]
    have := h s.toList
    rwa [String.ofList_toList] at this
  unfold PyData.strOk PySem.Str.ofString
  rw [e, PySem.cpsOfBytes_chars]
  simp only [List.all_toArray, List.all_map, List.all_eq_true, Function.comp, decide_eq_true_eq]
  intro c _
  have := c.valid
  have h : c.val.toNat < 1114112 := by
    rcases this with h | ⟨_, h⟩ <;> omega
  exact h
theorem upd_upd {H : Hp} {p : Addr} {o o2 : HO} : upd (upd H p o) p o2 = upd H p o2 := by
  funext a
  by_cases h : a = p
  · subst h; rw [upd_same, upd_same]
  · rw [upd_ne h, upd_ne h, upd_ne h]
theorem ediv_bd {a s B : Int} (h : 0 < s) (h1 : -B ≤ a ∧ a ≤ B) : -B ≤ a / s ∧ a / s ≤ B := by
  have hB : 0 ≤ B := by omega
  refine ⟨Int.le_ediv_of_mul_le h ?_, Int.le_of_lt_add_one (Int.ediv_lt_of_lt_mul h ?_)⟩
  · have := Int.mul_le_mul_of_nonneg_left (show 1 ≤ s by omega) hB
    rw [Int.neg_mul]; omega
  · have := Int.mul_le_mul_of_nonneg_left (show 1 ≤ s by omega) (show 0 ≤ B + 1 by omega)
    omega
theorem el_pair {K : PySem.W.Frag} {H : Hp} {p : Addr} {i j : Int} (h : H p = some (.tup [.int i, .int j])) : Kn H (.ref p) ∧ Dt K H (.ref p) :=
  ⟨.inr (.inl ⟨_, h⟩), _, .tup (sqT_of h) (.cons (.int i) (.cons (.int j) .nil)), rfl, by simp [PyData.depth, PyData.depthAll]⟩
theorem all_nil {p : V → Prop} : ∀ x ∈ ([] : List V), p x := fun _ h => by cases h
theorem all_cons {p : V → Prop} {y : V} {r : List V} (h : p y) (t : ∀ x ∈ r, p x) : ∀ x ∈ y :: r, p x := fun x hx => (List.mem_cons.mp hx).elim (fun e => e ▸ h) (t x)
theorem all_app {p : V → Prop} {l r : List V} (h : ∀ x ∈ l, p x) (t : ∀ x ∈ r, p x) : ∀ x ∈ l ++ r, p x := fun x hx => (List.mem_append.mp hx).elim (h x) (t x)
theorem Vg.same {K : PySem.W.Frag} {H H' : Hp} {v : V} (k : Vg K H v) (s : Same H H') : Vg K H' v :=
  ⟨k.1.same s, fun xs t x hx => (k.2 xs (k.1.1.back s t) x hx).same s⟩
theorem cat_of {H : Hp} {p q : Addr} {xs ys : List V} {Q : VK} (h : H p = some (.lst xs)) (h2 : H q = some (.lst ys)) (hl : xs.length + ys.length ≤ 100000) (k : ∀ r, H r = none → Q (.ref r) (upd H r (.lst (xs ++ ys)))) : rCat (.ref p) (.ref q) H Q :=
  ⟨p, q, xs, ys, rfl, rfl, h, h2, Nat.le_trans hl (by decide), k⟩
/-! ### _law_dice -/
theorem sc__law_dice : FnScope ["script", "spot", "cell", "left"] ["script", "spot"] (defScope s__law_dice) := ⟨rfl, rfl, rfl, by decide +kernel, rfl, by decide +kernel, by decide +kernel⟩
def sp__law_dice (K : PySem.W.Frag) : Sp := fun vs H Q _ => ∃ (a : Addr) (ns : List Int) (spot : Nat), vs = [.ref a, .int (spot : Int)] ∧ SqL K H a (ns.map V.int) ∧
  ∀ D H', H D = none → Same H H' → Dice H' D → Q (.ref D) H'
theorem len__law_dice {K : PySem.W.Frag} {vs : List V} {H : Hp} {Q : VK} {E : XK} (h : sp__law_dice K vs H Q E) : vs.length = ["script", "spot"].length := by
  obtain ⟨_, _, _, rfl, _⟩ := h
  rfl
def t__law_dice (K : PySem.W.Frag) : TS := (tSeq (tAsg (tIf (tTest (tOp rLtI (tVar 1) (tCB (rLenU K) (tCons (tVar 0) tNil)))) (tCB (rInt1) (tCons (tOp (rIxA K) (tVar 0) (tVar 1)) tNil)) (tOp rAdd (tOp rMulU (tC (.int 97)) (tVar 1)) (tC (.int 59)))) (gName 2))
  (tSeq (tAsg (tOp rModU (tCB (rMax2) (tCons (tC (.int 0)) (tCons (tOp rSub (tCB (rAbs) (tCons (tVar 2) tNil)) (tOp rPowU (tC (.int 10)) (tC (.int 16)))) tNil))) (tOp rMulU (tOp rPowU (tC (.int 10)) (tC (.int 58))) (tOp rPowU (tC (.int 10)) (tC (.int 60))))) (gName 3))
  (tRet (tLst (tCons (tVar 3) (tCons (tOp rAdd (tOp rAdd (tOp rAdd (tOp rMulU (tOp rModU (tCB (rAbs) (tCons (tVar 2) tNil)) (tC (.int 1152921504606846733))) (tC (.int 83))) (tOp rMulU (tC (.int 1033)) (tVar 1))) (tOp rMulU (tC (.int 61)) (tCB (rInt1) (tCons (tOp rLtI (tVar 2) (tC (.int 0))) tNil)))) (tC (.int 29))) (tCons (tC (.int 0)) tNil)))))))
theorem big_mul : CMul (10 ^ (58 : Int).toNat) (10 ^ (60 : Int).toNat) ∨ CMulW (10 ^ (58 : Int).toNat) (10 ^ (60 : Int).toNat) :=
  .inr (wide_mul (a := 200) (b := 210) (by decide) (by decide) (by decide) (by decide) (by decide))
theorem pure__law_dice (K : PySem.W.Frag) (vs : List V) (H : Hp) (Q : VK) (E : XK) (h : sp__law_dice K vs H Q E) : t__law_dice K { nx := fun _ H' => Q .non H', rt := Q } (start ["script", "spot", "cell", "left"] vs) H := by
  obtain ⟨a, ns, spot, rfl, hS, hq⟩ := h
  unfold t__law_dice
  walk_at "z"
  refine lenL hS ?_
  walk_at "z"
  by_cases hs : (spot : Int) < ((ns.map V.int).length : Int)
  · rw [if_pos hs]
    have hs2 : spot < ns.length := by simpa using hs
    refine ixL hS (v := .int ns[spot]) (atI_nat (by simp [hs2])) ?_
    walk_at "z"
    refine ⟨cpow (by decide), cpow (by decide), cpow (by decide), big_mul, by decide, by decide, mulR (by decide), mulS (by decide), mulS (by decide), by decide, fun p hp => ?_⟩
    exact hq p _ hp (same_upd hp) ⟨_, _, _, upd_same⟩
  · rw [if_neg hs]
    refine ⟨mulS (by decide), cpow (by decide), cpow (by decide), cpow (by decide), big_mul, by decide, by decide, mulR (by decide), mulS (by decide), mulS (by decide), by decide, fun p hp => ?_⟩
    exact hq p _ hp (same_upd hp) ⟨_, _, _, upd_same⟩
theorem ok__law_dice {P : Program} {w : World} {K : PySem.W.Frag} {mg : Str → Option Value} {base : Heap} (T : Tx K mg) : Okk P w K mg base 1 "_law_dice" ["script", "spot"] (sp__law_dice K) := by
  have hf_abs := T.n_abs
  have hf_int := T.n_int
  have hf_len := T.n_len
  have hf_max := T.n_max
  obtain ⟨fd, F⟩ := T.f__law_dice
  refine ⟨fd, F.ok sc__law_dice (fun vs H Q E h => len__law_dice h) (fun cdv A outer s H vs Q E hr h => ⟨t__law_dice K, PSs.nox ?_, pure__law_dice K vs H Q E h⟩), F.bindsN (fun _ _ _ _ _ _ us hl => match us, hl with | [_, _], _ => rfl), T.g__law_dice, F.kp⟩
  exact (pss_cons (ps_set (i := 2) sc__law_dice.nd rfl (by first | exact Or.inl rfl | exact Or.inr rfl) (pe_ifExp (pt_cmpR op_lt (pv 1) (pe_callB call_len_seq (by rfl) hf_len (by decide +kernel) (pa_cons (pv 0) pa_nil)) (nomark _)) (pe_callTy call_int1 (by rfl) hf_int (by decide +kernel) (pa_cons (pe_ix ix_lt (pv 0) (pv 1) (fun _ _ => rfl)) pa_nil)) (pe_op op_add (pe_op op_mulU pe_int (pv 1)) pe_int)))
      (pss_cons (ps_set (i := 3) sc__law_dice.nd rfl (by first | exact Or.inl rfl | exact Or.inr rfl) (pe_op op_mod (pe_callB (call_max2 rfl) (by rfl) hf_max (by decide +kernel) (pa_cons pe_int (pa_cons (pe_op op_sub (pe_callB call_abs (by rfl) hf_abs (by decide +kernel) (pa_cons (pv 2) pa_nil)) (pe_op op_pow pe_int pe_int)) pa_nil))) (pe_op op_mulU (pe_op op_pow pe_int pe_int) (pe_op op_pow pe_int pe_int))))
      (pss_one (ps_ret (pe_lst (pa_cons (pv 3) (pa_cons (pe_op op_add (pe_op op_add (pe_op op_add (pe_op op_mulU (pe_op op_mod (pe_callB call_abs (by rfl) hf_abs (by decide +kernel) (pa_cons (pv 2) pa_nil)) pe_int) pe_int) (pe_op op_mulU pe_int (pv 1))) (pe_op op_mulU pe_int (pe_callTy call_int1 (by rfl) hf_int (by decide +kernel) (pa_cons (pe_cmpR op_lt (pv 2) pe_int (nomark _)) pa_nil)))) pe_int) (pa_cons pe_int pa_nil))))))))
/-! ### _law_roll -/
theorem sc__law_roll : FnScope ["dice", "most", "found", "one", "two"] ["dice", "most"] (defScope s__law_roll) := ⟨rfl, rfl, rfl, by decide +kernel, rfl, by decide +kernel, by decide +kernel⟩
def sp__law_roll (K : PySem.W.Frag) : Sp := fun vs H Q _ => ∃ (d : Addr) (most : Int), vs = [.ref d, .int most] ∧ Dice H d ∧ 0 < most ∧ most < 2 ^ 250 ∧ ∀ r H', 0 ≤ r → r < most → Keep d H H' → Dice H' d → Q (.int r) H'
theorem len__law_roll {K : PySem.W.Frag} {vs : List V} {H : Hp} {Q : VK} {E : XK} (h : sp__law_roll K vs H Q E) : vs.length = ["dice", "most"].length := by
  obtain ⟨_, _, rfl, _⟩ := h
  rfl
def t__law_roll (K : PySem.W.Frag) : TS := (tSeq (tIfS (tTest (tOp rGtI (tOp (rIxA K) (tVar 0) (tC (.int 0))) (tC (.int 0)))) (tSeq (tAsg (tOp rModU (tCB (rInt1) (tCons (tOp (rIxA K) (tVar 0) (tC (.int 0))) tNil)) (tVar 1)) (gName 2))
  (tSeq (tAsg (tOp rDivU (tOp (rIxA K) (tVar 0) (tC (.int 0))) (tVar 1)) (gSub (tVar 0) (tC (.int 0)) rSetL))
  (tRet (tVar 2)))) tNext)
  (tSeq (tAsg (tOp rAdd (tOp (rIxA K) (tVar 0) (tC (.int 2))) (tC (.int 1))) (gSub (tVar 0) (tC (.int 2)) rSetL))
  (tSeq (tAsg (tOp rModU (tCB (rInt1) (tCons (tOp rAdd (tOp (rIxA K) (tVar 0) (tC (.int 1))) (tOp rMulU (tC (.int 86028121)) (tOp (rIxA K) (tVar 0) (tC (.int 2))))) tNil)) (tC (.int 2305843009213693561))) (gName 3))
  (tSeq (tAsg (tOp rModU (tCB (rInt1) (tCons (tOp rAdd (tOp rMulU (tVar 3) (tVar 3)) (tOp rMulU (tC (.int 103)) (tOp (rIxA K) (tVar 0) (tC (.int 2))))) tNil)) (tC (.int 2305843009213693669))) (gName 4))
  (tRet (tOp rModU (tCB (rInt1) (tCons (tOp rDivU (tOp rAdd (tOp rMulU (tVar 4) (tC (.int 7654321))) (tVar 3)) (tC (.int 65557))) tNil)) (tVar 1)))))))
theorem pure__law_roll (K : PySem.W.Frag) (vs : List V) (H : Hp) (Q : VK) (E : XK) (h : sp__law_roll K vs H Q E) : t__law_roll K { nx := fun _ H' => Q .non H', rt := Q } (start ["dice", "most", "found", "one", "two"] vs) H := by
  obtain ⟨d, most, rfl, ⟨a, b, c, hD⟩, h0, h1, hq⟩ := h
  unfold t__law_roll
  walk_at "z"
  refine ixL (sqL_of hD) rfl ?_
  walk_at "z"
  by_cases ha : 0 < a
  · rw [if_pos ha]
    refine ixL (sqL_of hD) rfl ?_
    walk_at "z"
    refine ⟨h0, ixL (sqL_of hD) rfl ?_⟩
    walk_at "z"
    refine ⟨divM h0 h1, setL hD rfl ?_⟩
    walk_at "z"
    exact hq _ _ (Int.emod_nonneg _ (by omega)) (Int.emod_lt_of_pos _ h0) (Keep.refl d H).put ⟨_, _, _, upd_same⟩
  · rw [if_neg ha]
    refine ixL (sqL_of hD) rfl ?_
    walk_at "z"
    refine setL hD rfl ?_
    walk_at "z"
    refine ixL (sqL_of upd_same) rfl ?_
    walk_at "z"
    refine ixL (sqL_of upd_same) rfl ?_
    walk_at "z"
    have e := Int.emod_nonneg (b + 86028121 * (c + 1)) (show (2305843009213693561 : Int) ≠ 0 by decide)
    have e2 := Int.emod_lt_of_pos (b + 86028121 * (c + 1)) (show (0 : Int) < 2305843009213693561 by decide)
    refine ⟨mulS (by decide), by decide, mulS (by omega), ixL (sqL_of upd_same) rfl ?_⟩
    walk_at "z"
    refine ⟨mulS (by decide), by decide, mulR (by decide), divS (by decide) (by decide), h0, ?_⟩
    exact hq _ _ (Int.emod_nonneg _ (by omega)) (Int.emod_lt_of_pos _ h0) (Keep.refl d H).put ⟨_, _, _, upd_same⟩
theorem ok__law_roll {P : Program} {w : World} {K : PySem.W.Frag} {mg : Str → Option Value} {base : Heap} (T : Tx K mg) : Okk P w K mg base 1 "_law_roll" ["dice", "most"] (sp__law_roll K) := by
  have hf_int := T.n_int
  obtain ⟨fd, F⟩ := T.f__law_roll
  refine ⟨fd, F.ok sc__law_roll (fun vs H Q E h => len__law_roll h) (fun cdv A outer s H vs Q E hr h => ⟨t__law_roll K, PSs.nox ?_, pure__law_roll K vs H Q E h⟩), F.bindsN (fun _ _ _ _ _ _ us hl => match us, hl with | [_, _], _ => rfl), T.g__law_roll, F.kp⟩
  exact (pss_cons (ps_if (pt_cmpR op_gt (pe_ix ix_lt (pv 0) pe_int (fun _ _ => rfl)) pe_int (nomark _)) (pss_cons (ps_set (i := 2) sc__law_roll.nd rfl (by first | exact Or.inl rfl | exact Or.inr rfl) (pe_op op_mod (pe_callTy call_int1 (by rfl) hf_int (by decide +kernel) (pa_cons (pe_ix ix_lt (pv 0) pe_int (fun _ _ => rfl)) pa_nil)) (pv 1)))
      (pss_cons (ps_asg (pe_op op_fdivW (pe_ix ix_lt (pv 0) pe_int (fun _ _ => rfl)) (pv 1)) (pg_sub (pv 0) pe_int set_list))
      (pss_one (ps_ret (pv 2))))) pss_nil)
      (pss_cons (ps_asg (pe_op op_add (pe_ix ix_lt (pv 0) pe_int (fun _ _ => rfl)) pe_int) (pg_sub (pv 0) pe_int set_list))
      (pss_cons (ps_set (i := 3) sc__law_roll.nd rfl (by first | exact Or.inl rfl | exact Or.inr rfl) (pe_op op_mod (pe_callTy call_int1 (by rfl) hf_int (by decide +kernel) (pa_cons (pe_op op_add (pe_ix ix_lt (pv 0) pe_int (fun _ _ => rfl)) (pe_op op_mulU pe_int (pe_ix ix_lt (pv 0) pe_int (fun _ _ => rfl)))) pa_nil)) pe_int))
      (pss_cons (ps_set (i := 4) sc__law_roll.nd rfl (by first | exact Or.inl rfl | exact Or.inr rfl) (pe_op op_mod (pe_callTy call_int1 (by rfl) hf_int (by decide +kernel) (pa_cons (pe_op op_add (pe_op op_mulU (pv 3) (pv 3)) (pe_op op_mulU pe_int (pe_ix ix_lt (pv 0) pe_int (fun _ _ => rfl)))) pa_nil)) pe_int))
      (pss_one (ps_ret (pe_op op_mod (pe_callTy call_int1 (by rfl) hf_int (by decide +kernel) (pa_cons (pe_op op_fdivW (pe_op op_add (pe_op op_mulU (pv 4) pe_int) (pv 3)) pe_int) pa_nil)) (pv 1))))))))
/-! ### _law_gcd -/
theorem sc__law_gcd : FnScope ["one", "other"] ["one", "other"] (defScope s__law_gcd) := ⟨rfl, rfl, rfl, by decide +kernel, rfl, by decide +kernel, by decide +kernel⟩
def sp__law_gcd (K : PySem.W.Frag) : Sp := fun vs H Q _ => ∃ a b : Int, vs = [.int a, .int b] ∧ Q (.int ((Nat.gcd a.natAbs b.natAbs : Nat) : Int)) H
theorem len__law_gcd {K : PySem.W.Frag} {vs : List V} {H : Hp} {Q : VK} {E : XK} (h : sp__law_gcd K vs H Q E) : vs.length = ["one", "other"].length := by
  obtain ⟨_, _, rfl, _⟩ := h
  rfl
def t__law_gcd_w1_c (K : PySem.W.Frag) : TT := (tTest (tOp rGtI (tVar 1) (tC (.int 0))))
def t__law_gcd_w1_b (K : PySem.W.Frag) : TS := (tPar 0 1 (tCons (tVar 1) (tCons (tOp rModU (tCB (rInt1) (tCons (tVar 0) tNil)) (tVar 1)) tNil)))
def t__law_gcd (K : PySem.W.Frag) : TS := (tSeq (tPar 0 1 (tCons (tCB (rAbs) (tCons (tVar 0) tNil)) (tCons (tCB (rAbs) (tCons (tVar 1) tNil)) tNil)))
  (tSeq (tWhile (t__law_gcd_w1_c K) (t__law_gcd_w1_b K))
  (tRet (tVar 0))))
theorem abs_nat (a : Int) : (if a < 0 then -a else a) = ((a.natAbs : Nat) : Int) := by split <;> omega
theorem pure__law_gcd (K : PySem.W.Frag) (vs : List V) (H : Hp) (Q : VK) (E : XK) (h : sp__law_gcd K vs H Q E) : t__law_gcd K { nx := fun _ H' => Q .non H', rt := Q } (start ["one", "other"] vs) H := by
  obtain ⟨a, b, rfl, hq⟩ := h
  unfold t__law_gcd
  walk_at "z"
  rw [abs_nat, abs_nat]
  refine while_of (fun μ σ H' => ∃ x y : Nat, σ = [some (.int (x : Int)), some (.int (y : Int))] ∧ H' = H ∧ Nat.gcd x y = Nat.gcd a.natAbs b.natAbs ∧ μ = y) b.natAbs ⟨_, _, rfl, rfl, rfl, rfl⟩ ?_
  rintro μ σ H' ⟨x, y, rfl, rfl, hg, rfl⟩ N hN hN2
  unfold t__law_gcd_w1_c t__law_gcd_w1_b
  walk_at "z"
  by_cases h0 : 0 < μ
  · rw [if_pos (by omega)]
    refine ⟨N, hN2, ?_⟩
    walk_at "z"
    refine ⟨by omega, hN (x % μ) _ _ (Nat.mod_lt _ h0) ⟨μ, x % μ, by rw [Int.natCast_emod], rfl, ?_, rfl⟩⟩
    rw [← hg, Nat.gcd_comm μ (x % μ), ← Nat.gcd_rec μ x, Nat.gcd_comm]
  · rw [if_neg (by omega)]
    obtain rfl : μ = 0 := by omega
    rw [Nat.gcd_zero_right] at hg
    subst hg
    exact hq
theorem ok__law_gcd {P : Program} {w : World} {K : PySem.W.Frag} {mg : Str → Option Value} {base : Heap} (T : Tx K mg) : Okk P w K mg base 1 "_law_gcd" ["one", "other"] (sp__law_gcd K) := by
  have hf_abs := T.n_abs
  have hf_int := T.n_int
  obtain ⟨fd, F⟩ := T.f__law_gcd
  refine ⟨fd, F.ok sc__law_gcd (fun vs H Q E h => len__law_gcd h) (fun cdv A outer s H vs Q E hr h => ⟨t__law_gcd K, PSs.nox ?_, pure__law_gcd K vs H Q E h⟩), F.bindsN (fun _ _ _ _ _ _ us hl => match us, hl with | [_, _], _ => rfl), T.g__law_gcd, F.kp⟩
  exact (pss_cons (ps_par (i := 0) (j := 1) rfl sc__law_gcd.nd rfl rfl (by decide) rfl rfl (pa_cons (pe_callB call_abs (by rfl) hf_abs (by decide +kernel) (pa_cons (pv 0) pa_nil)) (pa_cons (pe_callB call_abs (by rfl) hf_abs (by decide +kernel) (pa_cons (pv 1) pa_nil)) pa_nil)) (by rfl))
      (pss_cons (ps_while PassesOwn.never (pt_cmpR op_gt (pv 1) pe_int (nomark _)) (pss_one (ps_par (i := 0) (j := 1) rfl sc__law_gcd.nd rfl rfl (by decide) rfl rfl (pa_cons (pv 1) (pa_cons (pe_op op_mod (pe_callTy call_int1 (by rfl) hf_int (by decide +kernel) (pa_cons (pv 0) pa_nil)) (pv 1)) pa_nil)) (by rfl))))
      (pss_one (ps_ret (pv 0)))))
/-! ### _law_is_ground -/
theorem sc__law_is_ground : FnScope ["value", "one"] ["value"] (defScope s__law_is_ground) := ⟨rfl, rfl, rfl, by decide +kernel, rfl, by decide +kernel, by decide +kernel⟩
def sp__law_is_ground (K : PySem.W.Frag) : Sp := fun vs H Q _ => ∃ v : V, vs = [v] ∧ Kn H v ∧ ∀ (b : Bool) H', (b = true ↔ GroundV v) → Same H H' → Q (.bl b) H'
theorem len__law_is_ground {K : PySem.W.Frag} {vs : List V} {H : Hp} {Q : VK} {E : XK} (h : sp__law_is_ground K vs H Q E) : vs.length = ["value"].length := by
  obtain ⟨_, rfl, _⟩ := h
  rfl
def t__law_is_ground (K : PySem.W.Frag) : TS := (tSeq (tIfS (tOr (tB (tCB (rIsi K) (tCons (tVar 0) (tCons (tC (.ty "bool")) tNil)))) (tOr (tNot (tB (tCB (rIsi K) (tCons (tVar 0) (tCons (tC (.ty "int")) tNil))))) (tOr (tNot (tTest (tChain rLeI rLtI (tC (.int 0)) (tVar 0) (tC (.int 10000))))) (tTest (tOp rEq (tVar 0) (tC (.int 1))))))) (tRet (tC (.bl false))) tNext)
  (tRet (tOp (rEqD K) (tLc (iRng2 (tCons (tC (.int 2)) (tCons (tC (.int 100)) tNil))) (gName 1) (tAnd (tTest (tOp rLtI (tVar 1) (tVar 0))) (tTest (tOp rEq (tOp rModU (tCB (rInt1) (tCons (tVar 0) tNil)) (tVar 1)) (tC (.int 0))))) (tVar 1) [1]) (tLst tNil))))
theorem pure__law_is_ground (K : PySem.W.Frag) (vs : List V) (H : Hp) (Q : VK) (E : XK) (h : sp__law_is_ground K vs H Q E) : t__law_is_ground K { nx := fun _ H' => Q .non H', rt := Q } (start ["value", "one"] vs) H := by
  obtain ⟨v, rfl, hk, hq⟩ := h
  unfold t__law_is_ground
  walk_at "z"
  refine isi_kn_bool hk ?_
  walk_at "z"
  have no : (∀ n, v ≠ .int n) → Q (.bl false) H := fun h => hq false H (bfalse fun ⟨n, e, _⟩ => h n e) (Same.refl H)
  by_cases hb : isB v = true
  · rw [hb]
    walk_at "z"
    exact no fun n e => by rw [e] at hb; cases hb
  have hb2 : isB v = false := by simpa using hb
  rw [hb2]
  walk_at "z"
  refine isi_kn_int hk ?_
  walk_at "z"
  rw [hb2, Bool.or_false]
  cases v with
  | int n =>
    simp only [isI]
    walk_at "z"
    have bad : ∀ (p : Prop), (p → False) → (GroundV (.int n) → p) → Q (.bl false) H := fun p h1 h2 => hq false H (bfalse fun g => h1 (h2 g)) (Same.refl H)
    by_cases h0 : 0 ≤ n
    · rw [if_pos h0]
      by_cases h1 : n < 10000
      · rw [if_neg (fun c => c h1)]
        by_cases h2 : n = 1
        · rw [if_pos h2]
          refine bad (n ≠ 1) (fun c => c h2) ?_
          rintro ⟨m, e, _, _, h | h⟩
          · cases e; omega
          · cases e; have := h.1; omega
        · rw [if_neg h2]
          refine ⟨_, _, rfl, by decide, ?_⟩
          refine comp_R (trial n) (by decide) (fun i H' hi s Qo hQo => ?_) (fun D H' s hD => ?_)
          · walk_at "z"
            have := hQo H' (Same.refl H')
            unfold trial at this
            by_cases c1 : 2 + (i : Int) < n
            · rw [if_pos c1]
              refine ⟨by omega, ?_⟩
              by_cases c2 : n % (2 + (i : Int)) = 0
              · rw [if_pos ⟨c1, c2⟩] at this
                rw [if_pos c2]
                exact this
              · rw [if_neg fun c => c2 c.2] at this
                rw [if_neg c2]
                exact this
            · rw [if_neg c1]
              rw [if_neg fun c => c1 c.1] at this
              exact this
          · walk_at "z"
            refine ⟨by decide, fun R hR => ?_⟩
            refine (cmp_nil (same_upd hR _ _ hD) upd_same fun x hx => ?_).1 ?_
            · unfold outL at hx
              obtain ⟨i, _, hi⟩ := List.mem_filterMap.mp hx
              unfold trial at hi
              split at hi
              · cases hi; exact dt_int _
              · cases hi
            · refine hq _ _ ?_ (s.trans (same_upd hR))
              rw [decide_eq_true_eq, show ((100 : Int) - 2).toNat = 98 from rfl, trial_nil h0 h1 h2]
              constructor
              · intro h; exact ⟨n, rfl, h0, by omega, h⟩
              · rintro ⟨m, e, _, _, h⟩; cases e; exact h
      · rw [if_pos h1]
        exact bad (n < 10000) h1 fun ⟨m, e, _, h, _⟩ => by cases e; omega
    · rw [if_neg h0]
      exact bad (0 ≤ n) h0 fun ⟨m, e, h, _⟩ => by cases e; exact h
  | _ =>
    simp only [isI]
    walk_at "z"
    exact no fun n e => by cases e
theorem ok__law_is_ground {P : Program} {w : World} {K : PySem.W.Frag} {mg : Str → Option Value} {base : Heap} (T : Tx K mg) : Okk P w K mg base 1 "_law_is_ground" ["value"] (sp__law_is_ground K) := by
  have hf_bool := T.n_bool
  have hf_int := T.n_int
  have hf_isinstance := T.n_isinstance
  have hf_range := T.n_range
  obtain ⟨fd, F⟩ := T.f__law_is_ground
  refine ⟨fd, F.ok sc__law_is_ground (fun vs H Q E h => len__law_is_ground h) (fun cdv A outer s H vs Q E hr h => ⟨t__law_is_ground K, PSs.nox ?_, pure__law_is_ground K vs H Q E h⟩), F.bindsN (fun _ _ _ _ _ _ us hl => match us, hl with | [_], _ => rfl), T.g__law_is_ground, F.kp⟩
  have hu64 := hu64_of hr
  exact (pss_cons (ps_if (PW.pt (pw_or (pt_val (pe_callB call_isi (by rfl) hf_isinstance (by decide +kernel) (pa_cons (pv 0) (pa_cons (pe_bltn (v := .ty "bool") rfl hf_bool (by decide +kernel) rfl) pa_nil)))) (pw_or (pt_not (pt_val (pe_callB call_isi (by rfl) hf_isinstance (by decide +kernel) (pa_cons (pv 0) (pa_cons (pe_bltn (v := .ty "int") rfl hf_int (by decide +kernel) rfl) pa_nil))))) (pw_or (pt_not (pt_chain op_le op_lt pe_int (pv 0) pe_int)) (pw_or1 (pt_cmpR op_eq (pv 0) pe_int (nomark _))))))) (pss_one (ps_ret pe_bl)) pss_nil)
      (pss_one (ps_ret (pe_cmpR (op_eqD hu64) (pe_lc (own := [("one", 1)]) (g := (gName 1)) (tt := (tAnd (tTest (tOp rLtI (tVar 1) (tVar 0))) (tTest (tOp rEq (tOp rModU (tCB (rInt1) (tCons (tVar 0) tNil)) (tVar 1)) (tC (.int 0)))))) rfl sc__law_is_ground.nd (pi_range2 rfl hf_range (pa_cons pe_int (pa_cons pe_int pa_nil))) (blkOk_by (own := [("one", 1)]) (N := ["value", "one"]) (sc := defScope s__law_is_ground) (by decide +kernel)) (fun _ _ _ _ _ => (pg_name (i := 1) sc__law_is_ground.nd rfl (by first | exact Or.inl rfl | exact Or.inr rfl))) (fun _ _ _ _ _ => (pts_one (PW.pt (pw_and (pt_cmpR op_lt (pv 1) (pv 0) (nomark _)) (pw_and1 (pt_cmpR op_eq (pe_op op_mod (pe_callTy call_int1 (by rfl) hf_int (by decide +kernel) (pa_cons (pv 0) pa_nil)) (pv 1)) pe_int (nomark _))))))) (fun _ _ _ _ _ => (pv 1))) (pe_lst pa_nil) (nomark _)))))
/-! ### _law_is_short -/
theorem sc__law_is_short : FnScope ["value"] ["value"] (defScope s__law_is_short) := ⟨rfl, rfl, rfl, by decide +kernel, rfl, by decide +kernel, by decide +kernel⟩
def sp__law_is_short (K : PySem.W.Frag) : Sp := fun vs H Q _ => ∃ v : V, vs = [v] ∧ Kn H v ∧ Q (.bl (belowB v (10 ^ 60))) H
theorem len__law_is_short {K : PySem.W.Frag} {vs : List V} {H : Hp} {Q : VK} {E : XK} (h : sp__law_is_short K vs H Q E) : vs.length = ["value"].length := by
  obtain ⟨_, rfl, _⟩ := h
  rfl
def t__law_is_short (K : PySem.W.Frag) : TS := (tRet (tAndV (tCB (rIsi K) (tCons (tVar 0) (tCons (tC (.ty "int")) tNil))) (tAndV (tNotV (tCB (rIsi K) (tCons (tVar 0) (tCons (tC (.ty "bool")) tNil)))) (tOp rLtI (tCB (rAbs) (tCons (tVar 0) tNil)) (tOp rPowU (tC (.int 10)) (tC (.int 60)))))))
theorem pure__law_is_short (K : PySem.W.Frag) (vs : List V) (H : Hp) (Q : VK) (E : XK) (h : sp__law_is_short K vs H Q E) : t__law_is_short K { nx := fun _ H' => Q .non H', rt := Q } (start ["value"] vs) H := by
  obtain ⟨v, rfl, hk, hq⟩ := h
  unfold t__law_is_short
  walk_at "z"
  refine isi_kn_int hk ?_
  walk_at "z"
  cases v with
  | int n =>
    simp only [isI, isB, Bool.true_or, if_true]
    refine isi_kn_bool hk ?_
    walk_at "z"
    simp only [isB, Bool.not_false, if_true]
    refine ⟨cpow (by decide), ?_⟩
    have e : (10 : Int) ^ (60 : Int).toNat = 10 ^ 60 := rfl
    rw [e]
    have e2 : decide ((if n < 0 then -n else n) < 10 ^ 60) = belowB (.int n) (10 ^ 60) := by
      unfold belowB
      rw [Bool.eq_iff_iff, decide_eq_true_eq, decide_eq_true_eq]
      split <;> omega
    rw [e2]
    exact hq
  | bl b =>
    simp only [isI, isB, Bool.false_or, if_true]
    refine isi_kn_bool hk ?_
    walk_at "z"
    simp only [isB, Bool.not_true, Bool.false_eq_true, if_false]
    exact hq
  | _ =>
    simp only [isI, isB, Bool.or_false, Bool.false_eq_true, if_false]
    exact hq
theorem ok__law_is_short {P : Program} {w : World} {K : PySem.W.Frag} {mg : Str → Option Value} {base : Heap} (T : Tx K mg) : Okk P w K mg base 1 "_law_is_short" ["value"] (sp__law_is_short K) := by
  have hf_abs := T.n_abs
  have hf_bool := T.n_bool
  have hf_int := T.n_int
  have hf_isinstance := T.n_isinstance
  obtain ⟨fd, F⟩ := T.f__law_is_short
  refine ⟨fd, F.ok sc__law_is_short (fun vs H Q E h => len__law_is_short h) (fun cdv A outer s H vs Q E hr h => ⟨t__law_is_short K, PSs.nox ?_, pure__law_is_short K vs H Q E h⟩), F.bindsN (fun _ _ _ _ _ _ us hl => match us, hl with | [_], _ => rfl), T.g__law_is_short, F.kp⟩
  exact (pss_one (ps_ret (pe_and (pe_callB call_isi (by rfl) hf_isinstance (by decide +kernel) (pa_cons (pv 0) (pa_cons (pe_bltn (v := .ty "int") rfl hf_int (by decide +kernel) rfl) pa_nil))) (pe_and (pe_not (pe_callB call_isi (by rfl) hf_isinstance (by decide +kernel) (pa_cons (pv 0) (pa_cons (pe_bltn (v := .ty "bool") rfl hf_bool (by decide +kernel) rfl) pa_nil)))) (pe_one (pe_cmpR op_lt (pe_callB call_abs (by rfl) hf_abs (by decide +kernel) (pa_cons (pv 0) pa_nil)) (pe_op op_pow pe_int pe_int) (nomark _)))))))
/-! ### _law_pick -/
theorem sc__law_pick : FnScope ["dice", "items"] ["dice", "items"] (defScope s__law_pick) := ⟨rfl, rfl, rfl, by decide +kernel, rfl, by decide +kernel, by decide +kernel⟩
def sp__law_pick (K : PySem.W.Frag) : Sp := fun vs H Q _ => ∃ (d L : Addr) (xs : List V), vs = [.ref d, .ref L] ∧ Dice H d ∧ d ≠ L ∧ H L = some (.lst xs) ∧ xs ≠ [] ∧ xs.length < 2 ^ 40 ∧ ∀ v H', v ∈ xs → Keep d H H' → Dice H' d → Q v H'
theorem len__law_pick {K : PySem.W.Frag} {vs : List V} {H : Hp} {Q : VK} {E : XK} (h : sp__law_pick K vs H Q E) : vs.length = ["dice", "items"].length := by
  obtain ⟨_, _, _, rfl, _⟩ := h
  rfl
def t__law_pick (K : PySem.W.Frag) : TS := (tRet (tOp (rIxA K) (tVar 1) (tCall (sp__law_roll K) [] E0 (tCons (tVar 0) (tCons (tCB (rLenU K) (tCons (tVar 1) tNil)) tNil)))))
theorem pure__law_pick (K : PySem.W.Frag) (vs : List V) (H : Hp) (Q : VK) (E : XK) (h : sp__law_pick K vs H Q E) : t__law_pick K { nx := fun _ H' => Q .non H', rt := Q } (start ["dice", "items"] vs) H := by
  obtain ⟨d, L, xs, rfl, hD, hne, hL, hx, hl, hq⟩ := h
  unfold t__law_pick
  walk_at "z"
  refine lenL (sqL_of hL) ?_
  walk_at "z"
  have hp : 0 < xs.length := List.length_pos_iff.mpr hx
  refine ⟨d, _, rfl, hD, by omega, by omega, fun r H' r0 r1 k1 d1 => ?_⟩
  walk_at "z"
  have hr : r.toNat < xs.length := by omega
  have e : r = ((r.toNat : Nat) : Int) := by omega
  refine ixL (sqL_of (k1 _ _ (Ne.symm hne) hL)) (v := xs[r.toNat]) ?_ (hq _ _ (List.getElem_mem hr) k1 d1)
  have h9 := atI_nat (List.getElem?_eq_getElem hr)
  rw [← e] at h9
  exact h9
theorem ok__law_pick {P : Program} {w : World} {K : PySem.W.Frag} {mg : Str → Option Value} {base : Heap} (T : Tx K mg) : Okk P w K mg base 2 "_law_pick" ["dice", "items"] (sp__law_pick K) := by
  obtain ⟨fd__law_roll, F__law_roll, b__law_roll, g__law_roll, k__law_roll⟩ := ok__law_roll (P := P) (w := w) (base := base) T
  have hf_len := T.n_len
  obtain ⟨fd, F⟩ := T.f__law_pick
  refine ⟨fd, F.ok sc__law_pick (fun vs H Q E h => len__law_pick h) (fun cdv A outer s H vs Q E hr h => ⟨t__law_pick K, PSs.nox ?_, pure__law_pick K vs H Q E h⟩), F.bindsN (fun _ _ _ _ _ _ us hl => match us, hl with | [_, _], _ => rfl), T.g__law_pick, F.kp⟩
  exact (pss_one (ps_ret (pe_ix ix_lt (pv 1) (pe_call F__law_roll (hr.mono (by decide)) rfl g__law_roll k__law_roll b__law_roll .nil pass0 (pa_cons (pv 0) (pa_cons (pe_callB call_len_seq (by rfl) hf_len (by decide +kernel) (pa_cons (pv 1) pa_nil)) pa_nil))) (fun _ _ => rfl))))
/-! ### _law_is_number -/
theorem sc__law_is_number : FnScope ["ground", "value", "one"] ["ground", "value"] (defScope s__law_is_number) := ⟨rfl, rfl, rfl, by decide +kernel, rfl, by decide +kernel, by decide +kernel⟩
def sp__law_is_number (K : PySem.W.Frag) : Sp := fun vs H Q _ => ∃ (g : Int) (v : V), vs = [.int g, v] ∧ 0 ≤ g ∧ Kn2 H v ∧ KD K H v ∧ (g ≠ 0 → g < 10 ^ 60) ∧ ∀ (b : Bool) H', (b = true ↔ NumV H g v (10 ^ 60)) → Same H H' → Q (.bl b) H'
theorem len__law_is_number {K : PySem.W.Frag} {vs : List V} {H : Hp} {Q : VK} {E : XK} (h : sp__law_is_number K vs H Q E) : vs.length = ["ground", "value"].length := by
  obtain ⟨_, _, rfl, _⟩ := h
  rfl
def t__law_is_number (K : PySem.W.Frag) : TS := (tSeq (tIfS (tTest (tOp rGtI (tVar 0) (tC (.int 0)))) (tRet (tAndV (tCall (sp__law_is_short K) [] E0 (tCons (tVar 1) tNil)) (tChain rLeI rLtI (tC (.int 0)) (tVar 1) (tVar 0)))) tNext)
  (tSeq (tIfS (tOr (tNot (tB (tCB (rIsi K) (tCons (tVar 1) (tCons (tC (.ty "tuple")) tNil))))) (tOr (tTest (tOp rNe (tCB (rLenU K) (tCons (tVar 1) tNil)) (tC (.int 2)))) (tTest (tOp (rNeD K) (tLc (iTup K (tVar 1)) (gName 2) (tNot (tB (tCall (sp__law_is_short K) [] E0 (tCons (tVar 2) tNil)))) (tVar 2) [2]) (tLst tNil))))) (tRet (tC (.bl false))) tNext)
  (tRet (tAndV (tOp rGeI (tOp (rIxA K) (tVar 1) (tC (.int 1))) (tC (.int 1))) (tOp rEq (tCall (sp__law_gcd K) [] E0 (tCons (tOp (rIxA K) (tVar 1) (tC (.int 0))) (tCons (tOp (rIxA K) (tVar 1) (tC (.int 1))) tNil))) (tC (.int 1)))))))
theorem num_iff {H : Hp} {v : V} {x y : V} {l : Int} (ht : TupV H v [x, y]) : NumV H 0 v l ↔ ∃ t b : Int, x = .int t ∧ y = .int b ∧ (-l < t ∧ t < l) ∧ (-l < b ∧ b < l) ∧ 1 ≤ b ∧ Nat.gcd t.natAbs b.natAbs = 1 := by
  constructor
  · rintro (⟨h, _⟩ | ⟨_, t, b, h, r⟩)
    · exact absurd rfl h
    · have := ht.inj h
      simp at this
      exact ⟨t, b, this.1, this.2, r⟩
  · rintro ⟨t, b, rfl, rfl, r⟩
    exact .inr ⟨rfl, t, b, ht, r⟩
theorem two_short {x y : V} {l : Int} : (outL (fun i => ([x, y][i]?).bind fun z => if belowB z l = true then none else some z) 2).length = 0 ↔ belowB x l = true ∧ belowB y l = true := by
  cases hx : belowB x l <;> cases hy : belowB y l <;> simp [outL, List.range_succ, hx, hy]
theorem num_two {H : Hp} {v : V} {xs : List V} {l : Int} (ht : TupV H v xs) (h : xs.length ≠ 2) : ¬ NumV H 0 v l := by
  rintro (⟨h, _⟩ | ⟨_, t, b, h2, _⟩)
  · exact absurd rfl h
  · rw [ht.inj h2] at h
    exact h rfl
theorem num_tup {H : Hp} {v : V} {l : Int} (h : ∀ xs, ¬ TupV H v xs) : ¬ NumV H 0 v l := by
  rintro (⟨h, _⟩ | ⟨_, t, b, h2, _⟩)
  · exact absurd rfl h
  · exact h _ h2
theorem pure__law_is_number (K : PySem.W.Frag) (vs : List V) (H : Hp) (Q : VK) (E : XK) (h : sp__law_is_number K vs H Q E) : t__law_is_number K { nx := fun _ H' => Q .non H', rt := Q } (start ["ground", "value", "one"] vs) H := by
  obtain ⟨g, v, rfl, hg, hk, hkd, hg2, hq⟩ := h
  unfold t__law_is_number
  walk_at "z"
  by_cases h0 : 0 < g
  · rw [if_pos h0]
    refine ⟨v, rfl, hk.1, ?_⟩
    walk_at "z"
    have iff : NumV H g v (10 ^ 60) ↔ ∃ n, v = .int n ∧ 0 ≤ n ∧ n < g := by
      constructor
      · rintro (⟨_, h⟩ | ⟨h, _⟩)
        · exact h
        · omega
      · intro h; exact .inl ⟨by omega, h⟩
    have g3 := hg2 (by omega)
    cases v with
    | int n =>
      by_cases c : belowB (.int n) (10 ^ 60) = true
      · rw [if_pos c]
        walk_at "z"
        by_cases c1 : 0 ≤ n
        · rw [if_pos c1]
          refine hq _ H ?_ (Same.refl H)
          rw [iff, decide_eq_true_eq]
          constructor
          · intro h; exact ⟨n, rfl, c1, h⟩
          · rintro ⟨m, e, _, h⟩; cases e; exact h
        · rw [if_neg c1]
          exact hq false H (bfalse fun h => by obtain ⟨m, e, h, _⟩ := iff.mp h; cases e; omega) (Same.refl H)
      · rw [if_neg c]
        refine hq false H (bfalse fun h => ?_) (Same.refl H)
        obtain ⟨m, e, h1, h2⟩ := iff.mp h
        cases e
        exact c (decide_eq_true (by omega))
    | _ =>
      simp only [belowB, Bool.false_eq_true, if_false]
      exact hq false H (bfalse fun h => by obtain ⟨m, e, _⟩ := iff.mp h; cases e) (Same.refl H)
  · rw [if_neg h0]
    obtain rfl : g = 0 := by omega
    refine isi_kn_tuple hk.1 (fun xs ht => ?_) (fun hn => ?_)
    · walk_at "z"
      have hkx := hk.2 xs ht
      have hdx := hkd xs ht
      have ht2 := ht
      obtain ⟨a, rfl, ha⟩ := ht
      refine lenT (sqT_of ha) ?_
      walk_at "z"
      by_cases hl : xs.length = 2
      · rw [if_neg (by omega)]
        match xs, hl, ha, hkx, hdx, ht2 with
        | [x, y], _, ha, hkx, hdx, ht2 =>
        refine ⟨a, rfl, ⟨_, sqT_of ha⟩, comp_T (sqT_of ha) (fun i => ([x, y][i]?).bind fun z => if belowB z (10 ^ 60) = true then none else some z) (by simp) (fun i z H' hz s Qo hQo => ?_) (fun D H' s hD => ?_)⟩
        · walk_at "z"
          refine ⟨z, rfl, (hkx z (List.mem_of_getElem? hz)).same s, ?_⟩
          walk_at "z"
          have := hQo H' (Same.refl H')
          rw [hz] at this
          simp only [Option.bind_some] at this
          by_cases c : belowB z (10 ^ 60) = true
          · rw [if_pos c] at this
            rw [if_neg (by rw [c]; decide)]
            exact this
          · rw [if_neg c] at this
            rw [if_pos (by simpa using c)]
            exact this
        · walk_at "z"
          refine ⟨by decide, fun R hR => ?_⟩
          have s2 := same_upd (o := .lst []) hR
          have s3 := s.trans s2
          refine (cmp_nil (s2 _ _ hD) upd_same fun z hz => ?_).2 ?_
          · unfold outL at hz
            obtain ⟨i, _, hi⟩ := List.mem_filterMap.mp hz
            cases e : ([x, y] : List V)[i]? with
            | none => rw [e] at hi; cases hi
            | some z' =>
              rw [e] at hi
              simp only [Option.bind_some] at hi
              split at hi
              · cases hi
              · cases hi
                exact (hdx z (List.mem_of_getElem? e)).same s3
          · walk_at "z"
            by_cases cx : belowB x (10 ^ 60) = true
            · by_cases cy : belowB y (10 ^ 60) = true
              · rw [if_neg fun c => c (two_short.mpr ⟨cx, cy⟩)]
                obtain ⟨t, rfl, t1, t2⟩ := belowB_int cx
                obtain ⟨b, rfl, b1, b2⟩ := belowB_int cy
                have ha3 := sqT_of (K := K) (s3 _ _ ha)
                refine ixT ha3 (v := .int b) rfl ?_
                walk_at "z"
                have iff : NumV H 0 (V.ref a) (10 ^ 60) ↔ 1 ≤ b ∧ Nat.gcd t.natAbs b.natAbs = 1 := by
                  rw [num_iff ht2]
                  constructor
                  · rintro ⟨t', b', e1, e2, _, _, h1, h2⟩
                    cases e1; cases e2; exact ⟨h1, h2⟩
                  · rintro ⟨h1, h2⟩
                    exact ⟨t, b, rfl, rfl, ⟨t1, t2⟩, ⟨b1, b2⟩, h1, h2⟩
                by_cases hb : 1 ≤ b
                · rw [if_pos hb]
                  refine ixT ha3 (v := .int t) rfl ?_
                  walk_at "z"
                  refine ixT ha3 (v := .int b) rfl ?_
                  walk_at "z"
                  refine ⟨t, b, rfl, ?_⟩
                  walk_at "z"
                  refine hq _ _ ?_ s3
                  rw [iff, decide_eq_true_eq]
                  constructor
                  · intro h; exact ⟨hb, by omega⟩
                  · rintro ⟨_, h⟩; omega
                · rw [if_neg hb]
                  exact hq false _ (bfalse fun h => hb (iff.mp h).1) s3
              · rw [if_pos fun c => cy (two_short.mp c).2]
                refine hq false _ (bfalse fun h => ?_) s3
                obtain ⟨t, b, _, rfl, _, h, _⟩ := (num_iff ht2).mp h
                exact cy (decide_eq_true h)
            · rw [if_pos fun c => cx (two_short.mp c).1]
              refine hq false _ (bfalse fun h => ?_) s3
              obtain ⟨t, b, rfl, _, h, _⟩ := (num_iff ht2).mp h
              exact cx (decide_eq_true h)
      · rw [if_pos (by omega)]
        exact hq false H (bfalse (num_two ht2 hl)) (Same.refl H)
    · walk_at "z"
      exact hq false H (bfalse (num_tup hn)) (Same.refl H)

theorem ok__law_is_number {P : Program} {w : World} {K : PySem.W.Frag} {mg : Str → Option Value} {base : Heap} (T : Tx K mg) : Okk P w K mg base 2 "_law_is_number" ["ground", "value"] (sp__law_is_number K) := by
  obtain ⟨fd__law_gcd, F__law_gcd, b__law_gcd, g__law_gcd, k__law_gcd⟩ := ok__law_gcd (P := P) (w := w) (base := base) T
  obtain ⟨fd__law_is_short, F__law_is_short, b__law_is_short, g__law_is_short, k__law_is_short⟩ := ok__law_is_short (P := P) (w := w) (base := base) T
  have hf_isinstance := T.n_isinstance
  have hf_len := T.n_len
  have hf_tuple := T.n_tuple
  obtain ⟨fd, F⟩ := T.f__law_is_number
  refine ⟨fd, F.ok sc__law_is_number (fun vs H Q E h => len__law_is_number h) (fun cdv A outer s H vs Q E hr h => ⟨t__law_is_number K, PSs.nox ?_, pure__law_is_number K vs H Q E h⟩), F.bindsN (fun _ _ _ _ _ _ us hl => match us, hl with | [_, _], _ => rfl), T.g__law_is_number, F.kp⟩
  have hu64 := hu64_of hr
  exact (pss_cons (ps_if (pt_cmpR op_gt (pv 0) pe_int (nomark _)) (pss_one (ps_ret (pe_and (pe_call F__law_is_short (hr.mono (by decide)) rfl g__law_is_short k__law_is_short b__law_is_short .nil pass0 (pa_cons (pv 1) pa_nil)) (pe_one (pe_chain op_le op_lt pe_int (pv 1) (pv 0)))))) pss_nil)
      (pss_cons (ps_if (PW.pt (pw_or (pt_not (pt_val (pe_callB call_isi (by rfl) hf_isinstance (by decide +kernel) (pa_cons (pv 1) (pa_cons (pe_bltn (v := .ty "tuple") rfl hf_tuple (by decide +kernel) rfl) pa_nil))))) (pw_or (pt_cmpR op_ne (pe_callB call_len_seq (by rfl) hf_len (by decide +kernel) (pa_cons (pv 1) pa_nil)) pe_int (nomark _)) (pw_or1 (pt_cmpR (op_neD hu64) (pe_lc (own := [("one", 2)]) (g := (gName 2)) (tt := (tNot (tB (tCall (sp__law_is_short K) [] E0 (tCons (tVar 2) tNil))))) rfl sc__law_is_number.nd (pi_tup (pv 1)) (blkOk_by (own := [("one", 2)]) (N := ["ground", "value", "one"]) (sc := defScope s__law_is_number) (by decide +kernel)) (fun _ _ _ _ _ => (pg_name (i := 2) sc__law_is_number.nd rfl (by first | exact Or.inl rfl | exact Or.inr rfl))) (fun _ _ _ _ _ => (pts_one (pt_not (pt_val (pe_call F__law_is_short (hr.mono (by decide)) rfl g__law_is_short k__law_is_short b__law_is_short .nil pass0 (pa_cons (pv 2) pa_nil)))))) (fun _ _ _ _ _ => (pv 2))) (pe_lst pa_nil) (nomark _)))))) (pss_one (ps_ret pe_bl)) pss_nil)
      (pss_one (ps_ret (pe_and (pe_cmpR op_ge (pe_ix ix_lt (pv 1) pe_int (fun _ _ => rfl)) pe_int (nomark _)) (pe_one (pe_cmpR op_eq (pe_call F__law_gcd (hr.mono (by decide)) rfl g__law_gcd k__law_gcd b__law_gcd .nil pass0 (pa_cons (pe_ix ix_lt (pv 1) pe_int (fun _ _ => rfl)) (pa_cons (pe_ix ix_lt (pv 1) pe_int (fun _ _ => rfl)) pa_nil))) pe_int (nomark _))))))))
/-! ### _law_values -/
theorem sc__law_values : FnScope ["dice", "most", "one", "other", "many", "shared", "top", "bottom", "found", "far"] ["dice"] (defScope s__law_values) := ⟨rfl, rfl, rfl, by decide +kernel, rfl, by decide +kernel, by decide +kernel⟩
def sp__law_values (K : PySem.W.Frag) : Sp := fun vs H Q _ => ∃ d : Addr, vs = [.ref d] ∧ Dice H d ∧ ∀ L H' xs, Keep d H H' → Dice H' d → H' L = some (.lst xs) → xs.length < 1000 → (∀ v ∈ xs, Vg K H' v) → Q (.ref L) H'
theorem len__law_values {K : PySem.W.Frag} {vs : List V} {H : Hp} {Q : VK} {E : XK} (h : sp__law_values K vs H Q E) : vs.length = ["dice"].length := by
  obtain ⟨_, rfl, _⟩ := h
  rfl
def t__law_values_k1_b (K : PySem.W.Frag) : TS := (tSeq (tAsg (tOp rPowU (tC (.int 10)) (tC (.int 60))) (gName 9))
  (tRet (tOp rCat (tVar 8) (tLst (tCons (tTup (tCons (tVar 9) (tCons (tC (.int 1)) tNil))) (tCons (tTup (tCons (tOp rSub (tVar 9) (tC (.int 1))) (tCons (tC (.int 1)) tNil))) (tCons (tTup (tCons (tOp rSub (tC (.int 1)) (tVar 9)) (tCons (tOp rSub (tVar 9) (tC (.int 2))) tNil))) (tCons (tTup (tCons (tC (.int 1)) (tCons (tVar 9) tNil))) (tCons (tTup (tCons (tC (.int 1)) (tCons (tOp rSub (tVar 9) (tC (.int 1))) tNil))) (tCons (tVar 9) (tCons (tOp rSub (tC (.int 1)) (tVar 9)) (tCons (tTup (tCons (tC (.int 0)) (tCons (tVar 9) tNil))) tNil))))))))))))
def t__law_values_k2_b (K : PySem.W.Frag) : TS := (tSeq (tAsg (tOp rCat (tVar 8) (tLst (tCons (tTup (tCons (tTup (tCons (tVar 6) (tCons (tC (.int 1)) tNil))) (tCons (tVar 7) tNil))) (tCons (tDisp (((tVar 6), (tVar 7)) :: [])) (tCons (tC .non) (tCons (tC (.bl true)) (tCons (tC (.bl false)) (tCons (tC (.int 0)) (tCons (tC (.int 1)) (tCons (tC (.str "")) (tCons (tTup tNil) (tCons (tTup (tCons (tVar 6) (tCons (tC .non) tNil))) (tCons tDNewK (tCons (tC (.str "1")) (tCons (tLst (tCons (tC (.int 0)) tNil)) tNil))))))))))))))) (gName 8))
  (t__law_values_k1_b K))
def t__law_values_k3_b (K : PySem.W.Frag) : TS := (tSeq (tAsg (tOp rCat (tVar 8) (tLst (tCons (tTup (tCons (tC (.bl true)) (tCons (tVar 7) tNil))) (tCons (tTup (tCons (tVar 6) (tCons (tC (.bl true)) tNil))) (tCons (tTup (tCons (tVar 6) (tCons (tC (.int 0)) tNil))) (tCons (tTup (tCons (tC (.int 0)) (tCons (tC (.int 1)) tNil))) (tCons (tTup (tCons (tC (.int 0)) (tCons (tC (.int 2)) tNil))) (tCons (tTup (tCons (tC (.int 0)) (tCons (tC (.bl true)) tNil))) (tCons (tTup (tCons (tC (.bl false)) (tCons (tC (.int 1)) tNil))) (tCons (tVar 2) (tCons (tVar 3) (tCons (tCB (rAbs) (tCons (tVar 2) tNil)) (tCons (tCB (rStrI) (tCons (tVar 2) tNil)) (tCons (tTup (tCons (tCB (rStrI) (tCons (tVar 6) tNil)) (tCons (tVar 7) tNil))) tNil)))))))))))))) (gName 8))
  (t__law_values_k2_b K))
def t__law_values (K : PySem.W.Frag) : TS := (tSeq (tAsg (tCall (sp__law_pick K) [] E0 (tCons (tVar 0) (tCons (tLst (tCons (tC (.int 3)) (tCons (tC (.int 12)) (tCons (tC (.int 100)) (tCons (tC (.int 10000)) (tCons (tOp rPowU (tC (.int 10)) (tC (.int 60))) tNil)))))) tNil))) (gName 1))
  (tSeq (tPar3 2 3 4 (tCons (tOp rSub (tCall (sp__law_roll K) [] E0 (tCons (tVar 0) (tCons (tOp rMulU (tC (.int 2)) (tVar 1)) tNil))) (tVar 1)) (tCons (tOp rAdd (tC (.int 1)) (tCall (sp__law_roll K) [] E0 (tCons (tVar 0) (tCons (tVar 1) tNil)))) (tCons (tOp rAdd (tC (.int 2)) (tCall (sp__law_roll K) [] E0 (tCons (tVar 0) (tCons (tC (.int 5)) tNil)))) tNil))))
  (tSeq (tAsg (tCall (sp__law_gcd K) [] E0 (tCons (tVar 2) (tCons (tVar 3) tNil))) (gName 5))
  (tSeq (tPar 6 7 (tCons (tOp rDivU (tVar 2) (tVar 5)) (tCons (tOp rDivU (tVar 3) (tVar 5)) tNil)))
  (tSeq (tAsg (tLst (tCons (tTup (tCons (tVar 6) (tCons (tVar 7) tNil))) (tCons (tTup (tCons (tOp rMulU (tVar 6) (tVar 4)) (tCons (tOp rMulU (tVar 7) (tVar 4)) tNil))) (tCons (tTup (tCons (tVar 6) (tCons (tOp rSub (tC (.int 0)) (tVar 7)) tNil))) (tCons (tTup (tCons (tOp rSub (tC (.int 0)) (tVar 6)) (tCons (tVar 7) tNil))) (tCons (tLst (tCons (tVar 6) (tCons (tVar 7) tNil))) (tCons (tTup (tCons (tVar 6) tNil)) (tCons (tTup (tCons (tVar 6) (tCons (tVar 7) (tCons (tC (.int 1)) tNil)))) tNil)))))))) (gName 8))
  (t__law_values_k3_b K))))))
theorem pure__law_values (K : PySem.W.Frag) (vs : List V) (H : Hp) (Q : VK) (E : XK) (h : sp__law_values K vs H Q E) : t__law_values K { nx := fun _ H' => Q .non H', rt := Q } (start ["dice", "most", "one", "other", "many", "shared", "top", "bottom", "found", "far"] vs) H := by
  obtain ⟨d, rfl, hD, hq⟩ := h
  unfold t__law_values
  walk_at "z"
  refine ⟨cpow (by decide), by decide, fun L hL => ?_⟩
  have hdL : d ≠ L := by
    obtain ⟨_, _, _, h⟩ := hD
    exact ne_of_none h hL
  refine ⟨d, L, _, rfl, hD.same (same_upd hL), hdL, upd_same, by simp, by simp, fun v H1 hv k1 d1 => ?_⟩
  have K1 : Keep d H H1 := fun b o n h => k1 b o n (by rw [upd_ne (ne_of_none h hL)]; exact h)
  have hm : ∃ m : Int, v = .int m ∧ 3 ≤ m ∧ m ≤ 10 ^ 60 := by
    have e1 : (10 : Int) ^ (60 : Int).toNat = 10 ^ 60 := rfl
    rw [e1] at hv
    simp only [List.mem_cons, List.not_mem_nil, or_false] at hv
    rcases hv with rfl | rfl | rfl | rfl | rfl <;> exact ⟨_, rfl, by omega, by omega⟩
  obtain ⟨m, rfl, m3, m60⟩ := hm
  walk_at "z"
  refine ⟨mulS (by decide), d, _, rfl, d1, by omega, by omega, fun r1 H2 a1 b1 k2 d2 => ?_⟩
  walk_at "z"
  refine ⟨d, _, rfl, d2, by omega, by omega, fun r2 H3 a2 b2 k3 d3 => ?_⟩
  walk_at "z"
  refine ⟨d, _, rfl, d3, by omega, by omega, fun r3 H4 a3 b3 k4 d4 => ?_⟩
  walk_at "z"
  refine ⟨_, _, rfl, ?_⟩
  have K4 := ((K1.trans k2).trans k3).trans k4
  have o1 : -(10 ^ 60) ≤ r1 - m ∧ r1 - m ≤ 10 ^ 60 := by omega
  have o2 : 1 ≤ 1 + r2 ∧ 1 + r2 ≤ 10 ^ 60 := by omega
  have o3 : 2 ≤ 2 + r3 ∧ 2 + r3 ≤ 6 := by omega
  revert o1 o2 o3
  generalize r1 - m = one
  generalize 1 + r2 = other
  generalize 2 + r3 = many
  intro o1 o2 o3
  have g0 : 0 < Nat.gcd one.natAbs other.natAbs := Nat.gcd_pos_of_pos_right _ (by omega)
  have g1 : Nat.gcd one.natAbs other.natAbs ≤ other.natAbs := Nat.le_of_dvd (by omega) (Nat.gcd_dvd_right _ _)
  have sh : ∃ s : Int, ((Nat.gcd one.natAbs other.natAbs : Nat) : Int) = s ∧ 0 < s ∧ s ≤ 10 ^ 60 := ⟨_, rfl, by omega, by omega⟩
  obtain ⟨s, es, s0, s1⟩ := sh
  rw [es]
  walk_at "z"
  refine ⟨divM s0 (by omega), divM s0 (by omega), ?_⟩
  have tb := ediv_bd s0 o1
  have bb := ediv_bd s0 (B := 10 ^ 60) (a := other) ⟨by omega, o2.2⟩
  revert tb bb
  generalize one / s = top
  generalize other / s = bottom
  intro tb bb
  have l1920 : ∀ i : Int, i.natAbs ≤ 10 ^ 60 → i.natAbs.log2 < 1920 := fun i h => Nat.lt_of_lt_of_le (PySem.Flt.log2_lt_of (k := 250) (by decide) (by omega)) (by decide)
  have e60 : (10 : Int) ^ (60 : Int).toNat = 10 ^ 60 := rfl
  have M := @vg_int K
  have key1 : ∀ (H' : Hp) (F : Addr) (xs : List V), Keep d H H' → Dice H' d → H' F = some (.lst xs) → xs.length < 100 → (∀ v ∈ xs, Vg K H' v) →
      t__law_values_k1_b K { nx := fun _ H' => Q V.non H', rt := Q } [some (.ref d), some (.int m), some (.int one), some (.int other), some (.int many), some (.int s), some (.int top), some (.int bottom), some (.ref F), none] H' := by
    intro H' F xs kk dd hF hl hg
    unfold t__law_values_k1_b
    walk_at "z"
    refine ⟨cpow (by decide), by decide, fun p0 h0 => ⟨by decide, fun p1 h1 => ⟨by decide, fun p2 h2 => ⟨by decide, fun p3 h3 => ⟨by decide, fun p4 h4 => ⟨by decide, fun p5 h5 => ⟨by decide, fun q hq2 => ?_⟩⟩⟩⟩⟩⟩⟩
    refine cat_of (xs := xs) (by walk_at "at"; exact hF) (by walk_at "at") (by simp; omega) fun r hr => ?_
    refine hq r _ _ ?_ ?_ upd_same (by simp; omega) ?_
    · refine kk.same (H1 := H') ?_
      walk_at "same"
    · refine dd.same ?_
      walk_at "same"
    · refine all_app (fun v hv => (hg v hv).same ?_) ?_
      · walk_at "same"
      · refine all_cons (vg_tup (by walk_at "at") ?_) (all_cons (vg_tup (by walk_at "at") ?_) (all_cons (vg_tup (by walk_at "at") ?_) (all_cons (vg_tup (by walk_at "at") ?_) (all_cons (vg_tup (by walk_at "at") ?_) (all_cons M (all_cons M (all_cons (vg_tup (by walk_at "at") ?_) all_nil)))))))
        all_goals exact all_cons (el_int _) (all_cons (el_int _) all_nil)
  have key2 : ∀ (H' : Hp) (F : Addr) (xs : List V), Keep d H H' → Dice H' d → H' F = some (.lst xs) → xs.length < 70 → (∀ v ∈ xs, Vg K H' v) →
      t__law_values_k2_b K { nx := fun _ H' => Q V.non H', rt := Q } [some (.ref d), some (.int m), some (.int one), some (.int other), some (.int many), some (.int s), some (.int top), some (.int bottom), some (.ref F), none] H' := by
    intro H' F xs kk dd hF hl hg
    unfold t__law_values_k2_b
    walk_at "z"
    refine ⟨by decide, fun p0 h0 => ⟨by decide, fun p1 h1 => fun p2 h2 => ⟨upd_same, [(.inl top, .int bottom)], rfl, by simp, ?_⟩⟩⟩
    rw [upd_upd]
    refine ⟨by decide, fun p3 h3 => ⟨by decide, fun p4 h4 => fun p5 h5 => ⟨by decide, fun p6 h6 => ⟨by decide, fun q hq2 => ?_⟩⟩⟩⟩
    refine cat_of (xs := xs) (by walk_at "at"; exact hF) (by walk_at "at") (by simp; omega) fun r hr => ?_
    refine key1 _ r _ ?_ ?_ upd_same (by simp; omega) ?_
    · refine kk.same (H1 := H') ?_
      walk_at "same"
    · refine dd.same ?_
      walk_at "same"
    · refine all_app (fun v hv => (hg v hv).same ?_) ?_
      · walk_at "same"
      · refine all_cons (vg_tup (by walk_at "at") (all_cons (el_pair (by walk_at "at")) (all_cons (el_int _) all_nil))) (all_cons (vg_dK (by walk_at "at")) (all_cons vg_non (all_cons vg_bl (all_cons vg_bl (all_cons M (all_cons M (all_cons vg_str (all_cons (vg_tup (by walk_at "at") all_nil) (all_cons (vg_tup (by walk_at "at") (all_cons (el_int _) (all_cons el_non all_nil))) (all_cons (vg_dK (by walk_at "at")) (all_cons vg_str (all_cons (vg_lst (by walk_at "at")) all_nil))))))))))))
  have key3 : ∀ (H' : Hp) (F : Addr) (xs : List V), Keep d H H' → Dice H' d → H' F = some (.lst xs) → xs.length < 40 → (∀ v ∈ xs, Vg K H' v) →
      t__law_values_k3_b K { nx := fun _ H' => Q V.non H', rt := Q } [some (.ref d), some (.int m), some (.int one), some (.int other), some (.int many), some (.int s), some (.int top), some (.int bottom), some (.ref F), none] H' := by
    intro H' F xs kk dd hF hl hg
    unfold t__law_values_k3_b
    walk_at "z"
    refine ⟨by decide, fun p0 h0 => ⟨by decide, fun p1 h1 => ⟨by decide, fun p2 h2 => ⟨by decide, fun p3 h3 => ⟨by decide, fun p4 h4 => ⟨by decide, fun p5 h5 => ⟨by decide, fun p6 h6 => ⟨l1920 _ (by omega), l1920 _ (by omega), ⟨by decide, fun p7 h7 => ⟨by decide, fun q hq2 => ?_⟩⟩⟩⟩⟩⟩⟩⟩⟩⟩
    refine cat_of (xs := xs) (by walk_at "at"; exact hF) (by walk_at "at") (by simp; omega) fun r hr => ?_
    refine key2 _ r _ ?_ ?_ upd_same (by simp; omega) ?_
    · refine kk.same (H1 := H') ?_
      walk_at "same"
    · refine dd.same ?_
      walk_at "same"
    · refine all_app (fun v hv => (hg v hv).same ?_) ?_
      · walk_at "same"
      · refine all_cons (vg_tup (by walk_at "at") (all_cons (el_bl _) (all_cons (el_int _) all_nil))) (all_cons (vg_tup (by walk_at "at") (all_cons (el_int _) (all_cons (el_bl _) all_nil))) (all_cons (vg_tup (by walk_at "at") (all_cons (el_int _) (all_cons (el_int _) all_nil))) (all_cons (vg_tup (by walk_at "at") (all_cons (el_int _) (all_cons (el_int _) all_nil))) (all_cons (vg_tup (by walk_at "at") (all_cons (el_int _) (all_cons (el_int _) all_nil))) (all_cons (vg_tup (by walk_at "at") (all_cons (el_int _) (all_cons (el_bl _) all_nil))) (all_cons (vg_tup (by walk_at "at") (all_cons (el_bl _) (all_cons (el_int _) all_nil))) (all_cons M (all_cons M (all_cons M (all_cons vg_str (all_cons (vg_tup (by walk_at "at") (all_cons (el_str (strOk_of _)) (all_cons (el_int _) all_nil))) all_nil)))))))))))
  refine ⟨by decide, fun p0 h0 => ⟨mulR (by omega), mulR (by omega), ⟨by decide, fun p1 h1 => ⟨by decide, fun p2 h2 => ⟨by decide, fun p3 h3 => ⟨by decide, fun p4 h4 => ⟨by decide, fun p5 h5 => ⟨by decide, fun p6 h6 => ⟨by decide, fun q hq2 => ?_⟩⟩⟩⟩⟩⟩⟩⟩⟩
  refine key3 _ q _ ?_ ?_ upd_same (by simp) ?_
  · refine K4.same (H1 := H4) ?_
    walk_at "same"
  · refine d4.same ?_
    walk_at "same"
  · refine all_cons (vg_tup (by walk_at "at") ?_) (all_cons (vg_tup (by walk_at "at") ?_) (all_cons (vg_tup (by walk_at "at") ?_) (all_cons (vg_tup (by walk_at "at") ?_) (all_cons (vg_lst (by walk_at "at")) (all_cons (vg_tup (by walk_at "at") ?_) (all_cons (vg_tup (by walk_at "at") ?_) all_nil))))))
    · exact all_cons (el_int _) (all_cons (el_int _) all_nil)
    · exact all_cons (el_int _) (all_cons (el_int _) all_nil)
    · exact all_cons (el_int _) (all_cons (el_int _) all_nil)
    · exact all_cons (el_int _) (all_cons (el_int _) all_nil)
    · exact all_cons (el_int _) all_nil
    · exact all_cons (el_int _) (all_cons (el_int _) (all_cons (el_int _) all_nil))
theorem ok__law_values {P : Program} {w : World} {K : PySem.W.Frag} {mg : Str → Option Value} {base : Heap} (T : Tx K mg) : Okk P w K mg base 3 "_law_values" ["dice"] (sp__law_values K) := by
  obtain ⟨fd__law_roll, F__law_roll, b__law_roll, g__law_roll, k__law_roll⟩ := ok__law_roll (P := P) (w := w) (base := base) T
  obtain ⟨fd__law_pick, F__law_pick, b__law_pick, g__law_pick, k__law_pick⟩ := ok__law_pick (P := P) (w := w) (base := base) T
  obtain ⟨fd__law_gcd, F__law_gcd, b__law_gcd, g__law_gcd, k__law_gcd⟩ := ok__law_gcd (P := P) (w := w) (base := base) T
  have hf_abs := T.n_abs
  have hf_str := T.n_str
  obtain ⟨fd, F⟩ := T.f__law_values
  refine ⟨fd, F.ok sc__law_values (fun vs H Q E h => len__law_values h) (fun cdv A outer s H vs Q E hr h => ⟨t__law_values K, PSs.nox ?_, pure__law_values K vs H Q E h⟩), F.bindsN (fun _ _ _ _ _ _ us hl => match us, hl with | [_], _ => rfl), T.g__law_values, F.kp⟩
  exact (pss_cons (ps_set (i := 1) sc__law_values.nd rfl (by first | exact Or.inl rfl | exact Or.inr rfl) (pe_call F__law_pick (hr.mono (by decide)) rfl g__law_pick k__law_pick b__law_pick .nil pass0 (pa_cons (pv 0) (pa_cons (pe_lst (pa_cons pe_int (pa_cons pe_int (pa_cons pe_int (pa_cons pe_int (pa_cons (pe_op op_pow pe_int pe_int) pa_nil)))))) pa_nil))))
      (pss_cons (ps_par3 (i := 2) (j := 3) (l := 4) rfl sc__law_values.nd rfl rfl rfl (by decide) (by decide) (by decide) rfl rfl rfl (pa_cons (pe_op op_sub (pe_call F__law_roll (hr.mono (by decide)) rfl g__law_roll k__law_roll b__law_roll .nil pass0 (pa_cons (pv 0) (pa_cons (pe_op op_mulU pe_int (pv 1)) pa_nil))) (pv 1)) (pa_cons (pe_op op_add pe_int (pe_call F__law_roll (hr.mono (by decide)) rfl g__law_roll k__law_roll b__law_roll .nil pass0 (pa_cons (pv 0) (pa_cons (pv 1) pa_nil)))) (pa_cons (pe_op op_add pe_int (pe_call F__law_roll (hr.mono (by decide)) rfl g__law_roll k__law_roll b__law_roll .nil pass0 (pa_cons (pv 0) (pa_cons pe_int pa_nil)))) pa_nil))) (by rfl))
      (pss_cons (ps_set (i := 5) sc__law_values.nd rfl (by first | exact Or.inl rfl | exact Or.inr rfl) (pe_call F__law_gcd (hr.mono (by decide)) rfl g__law_gcd k__law_gcd b__law_gcd .nil pass0 (pa_cons (pv 2) (pa_cons (pv 3) pa_nil))))
      (pss_cons (ps_par (i := 6) (j := 7) rfl sc__law_values.nd rfl rfl (by decide) rfl rfl (pa_cons (pe_op op_fdivW (pv 2) (pv 5)) (pa_cons (pe_op op_fdivW (pv 3) (pv 5)) pa_nil)) (by rfl))
      (pss_cons (ps_set (i := 8) sc__law_values.nd rfl (by first | exact Or.inl rfl | exact Or.inr rfl) (pe_lst (pa_cons (pe_tup (pa_cons (pv 6) (pa_cons (pv 7) pa_nil))) (pa_cons (pe_tup (pa_cons (pe_op op_mulU (pv 6) (pv 4)) (pa_cons (pe_op op_mulU (pv 7) (pv 4)) pa_nil))) (pa_cons (pe_tup (pa_cons (pv 6) (pa_cons (pe_op op_sub pe_int (pv 7)) pa_nil))) (pa_cons (pe_tup (pa_cons (pe_op op_sub pe_int (pv 6)) (pa_cons (pv 7) pa_nil))) (pa_cons (pe_lst (pa_cons (pv 6) (pa_cons (pv 7) pa_nil))) (pa_cons (pe_tup (pa_cons (pv 6) pa_nil)) (pa_cons (pe_tup (pa_cons (pv 6) (pa_cons (pv 7) (pa_cons pe_int pa_nil)))) pa_nil)))))))))
      (pss_cons (ps_set (i := 8) sc__law_values.nd rfl (by first | exact Or.inl rfl | exact Or.inr rfl) (pe_op op_cat (pv 8) (pe_lst (pa_cons (pe_tup (pa_cons pe_bl (pa_cons (pv 7) pa_nil))) (pa_cons (pe_tup (pa_cons (pv 6) (pa_cons pe_bl pa_nil))) (pa_cons (pe_tup (pa_cons (pv 6) (pa_cons pe_int pa_nil))) (pa_cons (pe_tup (pa_cons pe_int (pa_cons pe_int pa_nil))) (pa_cons (pe_tup (pa_cons pe_int (pa_cons pe_int pa_nil))) (pa_cons (pe_tup (pa_cons pe_int (pa_cons pe_bl pa_nil))) (pa_cons (pe_tup (pa_cons pe_bl (pa_cons pe_int pa_nil))) (pa_cons (pv 2) (pa_cons (pv 3) (pa_cons (pe_callB call_abs (by rfl) hf_abs (by decide +kernel) (pa_cons (pv 2) pa_nil)) (pa_cons (pe_callTy call_str_int (by rfl) hf_str (by decide +kernel) (pa_cons (pv 2) pa_nil)) (pa_cons (pe_tup (pa_cons (pe_callTy call_str_int (by rfl) hf_str (by decide +kernel) (pa_cons (pv 6) pa_nil)) (pa_cons (pv 7) pa_nil))) pa_nil)))))))))))))))
      (pss_cons (ps_set (i := 8) sc__law_values.nd rfl (by first | exact Or.inl rfl | exact Or.inr rfl) (pe_op op_cat (pv 8) (pe_lst (pa_cons (pe_tup (pa_cons (pe_tup (pa_cons (pv 6) (pa_cons pe_int pa_nil))) (pa_cons (pv 7) pa_nil))) (pa_cons (pe_disp (pps_cons (pv 6) (pv 7) pps_nil) (by rfl) (by rfl) (fun z => by cases z) (by decide)) (pa_cons pe_non (pa_cons pe_bl (pa_cons pe_bl (pa_cons pe_int (pa_cons pe_int (pa_cons pe_str (pa_cons (pe_tup pa_nil) (pa_cons (pe_tup (pa_cons (pv 6) (pa_cons pe_non pa_nil))) (pa_cons pe_dnewK (pa_cons pe_str (pa_cons (pe_lst (pa_cons pe_int pa_nil)) pa_nil))))))))))))))))
      (pss_cons (ps_set (i := 9) sc__law_values.nd rfl (by first | exact Or.inl rfl | exact Or.inr rfl) (pe_op op_pow pe_int pe_int))
      (pss_one (ps_ret (pe_op op_cat (pv 8) (pe_lst (pa_cons (pe_tup (pa_cons (pv 9) (pa_cons pe_int pa_nil))) (pa_cons (pe_tup (pa_cons (pe_op op_sub (pv 9) pe_int) (pa_cons pe_int pa_nil))) (pa_cons (pe_tup (pa_cons (pe_op op_sub pe_int (pv 9)) (pa_cons (pe_op op_sub (pv 9) pe_int) pa_nil))) (pa_cons (pe_tup (pa_cons pe_int (pa_cons (pv 9) pa_nil))) (pa_cons (pe_tup (pa_cons pe_int (pa_cons (pe_op op_sub (pv 9) pe_int) pa_nil))) (pa_cons (pv 9) (pa_cons (pe_op op_sub pe_int (pv 9)) (pa_cons (pe_tup (pa_cons pe_int (pa_cons (pv 9) pa_nil))) pa_nil))))))))))))))))))))
/-! ### law -/
theorem sc_law : FnScope ["script", "spot", "dice", "first", "value", "ground", "values", "one", "other", "told"] ["script"] (defScope s_law) := ⟨rfl, rfl, rfl, by decide +kernel, rfl, by decide +kernel, by decide +kernel⟩
def sp_law (K : PySem.W.Frag) : Sp := fun vs H Q _ => ∃ (a : Addr) (ns : List Int), vs = [.ref a] ∧ SqL K H a (ns.map V.int) ∧ ns.length ≤ 63 ∧ ∀ H', Q (.bl true) H'
theorem len_law {K : PySem.W.Frag} {vs : List V} {H : Hp} {Q : VK} {E : XK} (h : sp_law K vs H Q E) : vs.length = ["script"].length := by
  obtain ⟨_, _, rfl, _⟩ := h
  rfl
def t_law_f1_b (K : PySem.W.Frag) : TS := (tIfS (tTest (tOp rNe (tCall (sp_is_ground K) [] E0 (tCons (tVar 4) tNil)) (tCall (sp__law_is_ground K) [] E0 (tCons (tVar 4) tNil)))) (tRet (tC (.bl false))) tNext)
def t_law_f2_b (K : PySem.W.Frag) : TS := (tIfS (tOr (tTest (tOp rNe (tCB (rReprU) (tCons (tCall (sp_is_number K) [] E0 (tCons (tVar 5) (tCons (tVar 4) tNil))) tNil)) (tCB (rReprU) (tCons (tCall (sp__law_is_number K) [] E0 (tCons (tVar 5) (tCons (tVar 4) tNil))) tNil)))) (tTest (tOp rNe (tCall (sp_is_ground K) [] E0 (tCons (tVar 4) tNil)) (tCall (sp__law_is_ground K) [] E0 (tCons (tVar 4) tNil))))) (tRet (tC (.bl false))) tNext)
def t_law_f3_b (K : PySem.W.Frag) : TS := (tSeq (tAsg (tCall (sp__law_dice K) [] E0 (tCons (tVar 0) (tCons (tVar 1) tNil))) (gName 2))
  (tSeq (tAsg (tOp rSub (tCall (sp__law_roll K) [] E0 (tCons (tVar 2) (tCons (tC (.int 10100)) tNil))) (tC (.int 20))) (gName 3))
  (tSeq (tFor (iList K (tOp rCat (tLstRg (tRg2 (tVar 3) (tOp rAdd (tVar 3) (tC (.int 60))))) (tLst (tCons (tC (.int 0)) (tCons (tC (.int 1)) (tCons (tC (.int 2)) (tCons (tC (.int 9973)) (tCons (tC (.int 9999)) (tCons (tC (.int 10007)) (tCons (tOp rMulU (tC (.int 97)) (tC (.int 97))) (tCons (tOp rMulU (tC (.int 97)) (tC (.int 101))) tNil))))))))))) (gName 4) (t_law_f1_b K))
  (tSeq (tAsg (tCall (sp__law_pick K) [] E0 (tCons (tVar 2) (tCons (tLst (tCons (tC (.int 0)) (tCons (tC (.int 0)) (tCons (tC (.int 2)) (tCons (tC (.int 3)) (tCons (tC (.int 5)) (tCons (tC (.int 97)) (tCons (tC (.int 9973)) tNil)))))))) tNil))) (gName 5))
  (tSeq (tAsg (tOp rCat (tOp rCat (tCall (sp__law_values K) [] E0 (tCons (tVar 2) tNil)) (tLstRg (tRg2 (tUn rNeg (tC (.int 2))) (tC (.int 4))))) (tLst (tCons (tVar 5) (tCons (tOp rSub (tVar 5) (tC (.int 1))) (tCons (tOp rAdd (tVar 5) (tC (.int 1))) tNil))))) (gName 6))
  (tSeq (tFor (iList K (tVar 6)) (gName 4) (t_law_f2_b K))
  (tSeq (tPar 7 8 (tCons (tOp rSub (tCall (sp__law_roll K) [] E0 (tCons (tVar 2) (tCons (tC (.int 2001)) tNil))) (tC (.int 1000))) (tCons (tOp rAdd (tCall (sp__law_roll K) [] E0 (tCons (tVar 2) (tCons (tC (.int 1000)) tNil))) (tC (.int 1))) tNil)))
  (tIfS (tOr (tNot (tB (tCall (sp_is_number K) [] E0 (tCons (tVar 5) (tCons (tCall (sp_whole K) [] E0 (tCons (tVar 5) (tCons (tVar 7) tNil))) tNil))))) (tOr (tNot (tB (tCall (sp_is_number K) [] E0 (tCons (tC (.int 0)) (tCons (tCall (sp_fraction K) [] E0 (tCons (tVar 7) (tCons (tVar 8) tNil))) tNil))))) (tNot (tB (tCall (sp_is_number K) [] E0 (tCons (tC (.int 0)) (tCons (tCall (sp_fraction K) [] E0 (tCons (tVar 7) (tCons (tOp rSub (tC (.int 0)) (tVar 8)) tNil))) tNil))))))) (tRet (tC (.bl false))) tNext))))))))
def t_law_k4_b (K : PySem.W.Frag) : TS := (tSeq (tAsg (tLst (tCons (tCall (sp_is_number K) [] E0 (tCons (tC (.int 0)) (tCons (tTup (tCons (tC (.int 2)) (tCons (tC (.int 4)) tNil))) tNil))) (tCons (tCall (sp_is_number K) [] E0 (tCons (tC (.int 5)) (tCons (tC (.int 5)) tNil))) (tCons (tCall (sp_is_number K) [] E0 (tCons (tC (.int 0)) (tCons (tC (.int 3)) tNil))) (tCons (tCall (sp_is_ground K) [] E0 (tCons (tC (.int 1)) tNil)) (tCons (tCall (sp_is_ground K) [] E0 (tCons (tC (.int 9973)) tNil)) (tCons (tCall (sp_is_ground K) [] E0 (tCons (tC (.int 10007)) tNil)) (tCons (tCall (sp_is_ground K) [] E0 (tCons (tC (.bl true)) tNil)) tNil)))))))) (gName 9))
  (tRet (tAndV (tOp (rEqD K) (tVar 9) (tLst (tCons (tC (.bl false)) (tCons (tC (.bl false)) (tCons (tC (.bl false)) (tCons (tC (.bl false)) (tCons (tC (.bl true)) (tCons (tC (.bl false)) (tCons (tC (.bl false)) tNil))))))))) (tAndV (tCall (sp_is_number K) [] E0 (tCons (tC (.int 2)) (tCons (tC (.int 1)) tNil))) (tNotV (tCall (sp_is_number K) [] E0 (tCons (tC (.int 2)) (tCons (tC (.bl true)) tNil))))))))
def t_law (K : PySem.W.Frag) : TS := (tSeq (tFor (iRng1 (tCons (tCB (rMax2) (tCons (tC (.int 1)) (tCons (tCB (rMin2) (tCons (tC (.int 3)) (tCons (tCB (rLenU K) (tCons (tVar 0) tNil)) tNil))) tNil))) tNil)) (gName 1) (t_law_f3_b K))
  (t_law_k4_b K))
theorem grd {n : Int} (h : n = 0 ∨ n = 2 ∨ n = 3 ∨ n = 5 ∨ n = 97 ∨ n = 9973) : GroundV (.int n) ∧ 0 ≤ n ∧ n ≤ 9973 := by
  have f : ∀ n : Int, 0 ≤ n → n < 9999 → n ≠ 1 → (outL (trial n) 98).length = 0 → GroundV (.int n) := fun n a b c d => ⟨n, rfl, a, by omega, (trial_nil a (by omega) c).mp d⟩
  rcases h with rfl | rfl | rfl | rfl | rfl | rfl <;> exact ⟨f _ (by decide) (by decide) (by decide) (by decide +kernel), by decide, by decide⟩
theorem bool_same {a b : Bool} {p : Prop} (h : a = true ↔ p) (h2 : b = true ↔ p) : a = b := by
  rw [Bool.eq_iff_iff, h, h2]
theorem rg_vg {K : PySem.W.Frag} {H : Hp} {a b : Int} : ∀ v ∈ rgV a b, Vg K H v := by
  intro v hv
  unfold rgV at hv
  obtain ⟨i, _, rfl⟩ := List.mem_map.mp hv
  exact vg_int
theorem rg_len {a b : Int} : (rgV a b).length = (b - a).toNat := by simp [rgV]
theorem reprs {b c : Bool} (h : b = c) : (if b = true then PySem.Str.ofString "True" else PySem.Str.ofString "False") = (if c = true then PySem.Str.ofString "True" else PySem.Str.ofString "False") := by rw [h]
theorem ne_same {x : V} {H : Hp} {Q : VK} (h : scal x x = true) (h2 : Q (.bl false) H) : rNe x x H Q := ⟨h, by simpa using h2⟩
theorem bl7 {K : PySem.W.Frag} {H : Hp} (b1 b2 b3 b4 b5 b6 b7 : Bool) : DpAll K H [.bl b1, .bl b2, .bl b3, .bl b4, .bl b5, .bl b6, .bl b7] [.bool b1, .bool b2, .bool b3, .bool b4, .bool b5, .bool b6, .bool b7] :=
  .cons (.bl _) (.cons (.bl _) (.cons (.bl _) (.cons (.bl _) (.cons (.bl _) (.cons (.bl _) (.cons (.bl _) .nil))))))
theorem pure_law (K : PySem.W.Frag) (vs : List V) (H : Hp) (Q : VK) (E : XK) (h : sp_law K vs H Q E) : t_law K { nx := fun _ H' => Q .non H', rt := Q } (start ["script", "spot", "dice", "first", "value", "ground", "values", "one", "other", "told"] vs) H := by
  obtain ⟨a, ns, rfl, hS, hl, hq⟩ := h
  unfold t_law
  walk_at "z"
  refine lenL hS ?_
  walk_at "z"
  have hb : ∃ n : Nat, (if (if ((ns.map V.int).length : Int) < 3 then ((ns.map V.int).length : Int) else 3) > 1 then (if ((ns.map V.int).length : Int) < 3 then ((ns.map V.int).length : Int) else 3) else 1) = (n : Int) ∧ n ≤ 3 := by
    rw [List.length_map]
    refine ⟨(if (if (ns.length : Int) < 3 then (ns.length : Int) else 3) > 1 then (if (ns.length : Int) < 3 then (ns.length : Int) else 3) else 1).toNat, ?_, ?_⟩
    · split <;> split <;> omega
    · split <;> split <;> omega
  obtain ⟨n, hn, hn3⟩ := hb
  rw [hn]
  refine ⟨_, rfl, by omega, by omega, for_R (fun i σ H' => ∃ o1 o2 o3 o4 o5 o6 o7 o8, σ = [some (.ref a), o1, o2, o3, o4, o5, o6, o7, o8, none] ∧ Same H H') ⟨_, _, _, _, _, _, _, _, rfl, Same.refl H⟩ (fun i σ H' hi h N hN => ?_) (fun σ H' h => ?_)⟩
  · obtain ⟨o1, o2, o3, o4, o5, o6, o7, o8, rfl, s1⟩ := h
    unfold t_law_f3_b
    walk_at "z"
    refine ⟨a, ns, i, by rw [Int.zero_add], s1.seq hS, fun D H2 hD s2 d2 => ?_⟩
    walk_at "z"
    refine ⟨D, _, rfl, d2, by decide, by decide, fun r1 H3 a1 b1 k3 d3 => ?_⟩
    walk_at "z"
    refine ⟨⟨by omega, by omega, by omega, by omega, by omega⟩, fun q hq0 => ⟨mulS (by decide), mulS (by decide), by decide, fun p hp => ?_⟩⟩
    refine cat_of (by walk_at "at") (by walk_at "at") (by rw [rg_len]; simp; omega) fun r hr => ?_
    have K3 : Keep D H' H3 := ((Keep.refl D H').same s2).trans k3
    revert K3 s2 hD s1 hN
    generalize H' = H5a
    intro hN s1 hD s2 K3
    have K4 := K3.same (H2 := upd (upd (upd H3 q (HO.lst (rgV (r1 - 20) (r1 - 20 + 60)))) p (HO.lst [V.int 0, V.int 1, V.int 2, V.int 9973, V.int 9999, V.int 10007, V.int (97 * 97), V.int (97 * 101)])) r (HO.lst (rgV (r1 - 20) (r1 - 20 + 60) ++ [V.int 0, V.int 1, V.int 2, V.int 9973, V.int 9999, V.int 10007, V.int (97 * 97), V.int (97 * 101)]))) (by walk_at "same")
    have d4 := d3.same (H1 := upd (upd (upd H3 q (HO.lst (rgV (r1 - 20) (r1 - 20 + 60)))) p (HO.lst [V.int 0, V.int 1, V.int 2, V.int 9973, V.int 9999, V.int 10007, V.int (97 * 97), V.int (97 * 101)])) r (HO.lst (rgV (r1 - 20) (r1 - 20 + 60) ++ [V.int 0, V.int 1, V.int 2, V.int 9973, V.int 9999, V.int 10007, V.int (97 * 97), V.int (97 * 101)]))) (by walk_at "same")
    have hr2 := upd_same (H := upd (upd H3 q (HO.lst (rgV (r1 - 20) (r1 - 20 + 60)))) p (HO.lst [V.int 0, V.int 1, V.int 2, V.int 9973, V.int 9999, V.int 10007, V.int (97 * 97), V.int (97 * 101)])) (a := r) (o := HO.lst (rgV (r1 - 20) (r1 - 20 + 60) ++ [V.int 0, V.int 1, V.int 2, V.int 9973, V.int 9999, V.int 10007, V.int (97 * 97), V.int (97 * 101)]))
    have G : ∀ v ∈ (rgV (r1 - 20) (r1 - 20 + 60) ++ [V.int 0, V.int 1, V.int 2, V.int 9973, V.int 9999, V.int 10007, V.int (97 * 97), V.int (97 * 101)]), ∃ i, v = V.int i := by
      intro v hv
      rcases List.mem_append.mp hv with hv | hv
      · unfold rgV at hv
        obtain ⟨i, _, rfl⟩ := List.mem_map.mp hv
        exact ⟨_, rfl⟩
      · simp only [List.mem_cons, List.not_mem_nil, or_false] at hv
        rcases hv with rfl | rfl | rfl | rfl | rfl | rfl | rfl | rfl <;> exact ⟨_, rfl⟩
    revert K4 d4 hr2 G
    generalize upd (upd (upd H3 q (HO.lst (rgV (r1 - 20) (r1 - 20 + 60)))) p (HO.lst [V.int 0, V.int 1, V.int 2, V.int 9973, V.int 9999, V.int 10007, V.int (97 * 97), V.int (97 * 101)])) r (HO.lst (rgV (r1 - 20) (r1 - 20 + 60) ++ [V.int 0, V.int 1, V.int 2, V.int 9973, V.int 9999, V.int 10007, V.int (97 * 97), V.int (97 * 101)])) = H4
    generalize (rgV (r1 - 20) (r1 - 20 + 60) ++ [V.int 0, V.int 1, V.int 2, V.int 9973, V.int 9999, V.int 10007, V.int (97 * 97), V.int (97 * 101)]) = gs
    intro K4 d4 hr2 G
    refine ⟨r, rfl, ⟨gs, sqL_of hr2⟩, for_L (xs := gs) (fun j σ H' => ∃ o4, σ = [some (.ref a), some (.int (0 + (i : Int))), some (.ref D), some (.int (r1 - 20)), o4, o5, o6, o7, o8, none] ∧ Same H4 H') ⟨_, rfl, Same.refl _⟩ (fun j σ H' _ h => by obtain ⟨_, _, s⟩ := h; exact sqL_of (s _ _ hr2)) (fun j x σ H' hx h N2 hN2 => ?_) (fun σ H' h => ?_)⟩
    · obtain ⟨o4, rfl, s4⟩ := h
      obtain ⟨n0, rfl⟩ := G x (List.mem_of_getElem? hx)
      unfold t_law_f1_b
      walk_at "z"
      refine ⟨_, rfl, trivial, fun b hb => ?_⟩
      walk_at "z"
      refine ⟨_, rfl, trivial, fun b2 H5 hb2 s5 => ?_⟩
      rw [bool_same hb hb2]
      refine ne_same rfl ?_
      walk_at "z"
      exact hN2 _ _ ⟨_, rfl, s4.trans s5⟩
    · obtain ⟨o4, rfl, s4⟩ := h
      have K4 := K4.same s4
      have d4 := d4.same s4
      walk_at "z"
      refine ⟨by decide, fun pg hpg => ?_⟩
      have dD : D ≠ pg := by
        obtain ⟨_, _, _, h⟩ := d4
        exact ne_of_none h hpg
      refine ⟨D, pg, _, rfl, d4.same (same_upd hpg), dD, upd_same, by simp, by simp, fun v H5 hv k5 d5 => ?_⟩
      have hg : ∃ g : Int, v = .int g ∧ GroundV (.int g) ∧ 0 ≤ g ∧ g ≤ 9973 := by
        simp only [List.mem_cons, List.not_mem_nil, or_false] at hv
        rcases hv with rfl | rfl | rfl | rfl | rfl | rfl | rfl <;> exact ⟨_, rfl, grd (by simp)⟩
      obtain ⟨g, rfl, hg, g0, g1⟩ := hg
      have K5 : Keep D H5a H5 := (K4.same (same_upd hpg)).trans k5
      refine ⟨D, rfl, d5, fun L H6 vs k6 d6 hL hvl hvg => ?_⟩
      refine ⟨⟨by decide, by decide, by decide, by decide, by decide⟩, fun q2 hq2 => ?_⟩
      refine cat_of (by walk_at "at"; exact hL) (by walk_at "at") (by rw [rg_len]; simp; omega) fun r2 hr2 => ?_
      walk_at "z"
      refine ⟨by decide, fun q3 hq3 => ?_⟩
      refine cat_of (by walk_at "at") (by walk_at "at") (by simp [rg_len]; omega) fun r3 hr3 => ?_
      have K6 := (K5.trans k6).same (H2 := upd (upd (upd (upd H6 q2 (HO.lst (rgV (-2) 4))) r2 (HO.lst (vs ++ rgV (-2) 4))) q3 (HO.lst [V.int g, V.int (g - 1), V.int (g + 1)])) r3 (HO.lst (vs ++ rgV (-2) 4 ++ [V.int g, V.int (g - 1), V.int (g + 1)]))) (by walk_at "same")
      have d7 := d6.same (H1 := upd (upd (upd (upd H6 q2 (HO.lst (rgV (-2) 4))) r2 (HO.lst (vs ++ rgV (-2) 4))) q3 (HO.lst [V.int g, V.int (g - 1), V.int (g + 1)])) r3 (HO.lst (vs ++ rgV (-2) 4 ++ [V.int g, V.int (g - 1), V.int (g + 1)]))) (by walk_at "same")
      have at7 := upd_same (H := upd (upd (upd H6 q2 (HO.lst (rgV (-2) 4))) r2 (HO.lst (vs ++ rgV (-2) 4))) q3 (HO.lst [V.int g, V.int (g - 1), V.int (g + 1)])) (a := r3) (o := HO.lst (vs ++ rgV (-2) 4 ++ [V.int g, V.int (g - 1), V.int (g + 1)]))
      have VG : ∀ v ∈ (vs ++ rgV (-2) 4 ++ [V.int g, V.int (g - 1), V.int (g + 1)]), Vg K (upd (upd (upd (upd H6 q2 (HO.lst (rgV (-2) 4))) r2 (HO.lst (vs ++ rgV (-2) 4))) q3 (HO.lst [V.int g, V.int (g - 1), V.int (g + 1)])) r3 (HO.lst (vs ++ rgV (-2) 4 ++ [V.int g, V.int (g - 1), V.int (g + 1)]))) v := by
        refine all_app (all_app (fun v hv => (hvg v hv).same (by walk_at "same")) rg_vg) ?_
        exact all_cons vg_int (all_cons vg_int (all_cons vg_int all_nil))
      revert K6 d7 at7 VG
      generalize upd (upd (upd (upd H6 q2 (HO.lst (rgV (-2) 4))) r2 (HO.lst (vs ++ rgV (-2) 4))) q3 (HO.lst [V.int g, V.int (g - 1), V.int (g + 1)])) r3 (HO.lst (vs ++ rgV (-2) 4 ++ [V.int g, V.int (g - 1), V.int (g + 1)])) = H7
      generalize (vs ++ rgV (-2) 4 ++ [V.int g, V.int (g - 1), V.int (g + 1)]) = ws
      intro K6 d7 at7 VG
      refine ⟨r3, rfl, ⟨ws, sqL_of at7⟩, for_L (xs := ws) (fun j σ H' => ∃ o4, σ = [some (.ref a), some (.int (0 + (i : Int))), some (.ref D), some (.int (r1 - 20)), o4, some (.int g), some (.ref r3), o7, o8, none] ∧ Same H7 H') ⟨_, rfl, Same.refl _⟩ (fun j σ H' _ h => by obtain ⟨_, _, s⟩ := h; exact sqL_of (s _ _ at7)) (fun j x σ H' hx h N2 hN2 => ?_) (fun σ H' h => ?_)⟩
      · obtain ⟨o4, rfl, s7⟩ := h
        have vx := (VG x (List.mem_of_getElem? hx)).same s7
        unfold t_law_f2_b
        walk_at "z"
        refine ⟨g, x, rfl, hg, vx.1, fun b hb => ?_⟩
        walk_at "z"
        refine .inr (.inl ⟨b, rfl, ?_⟩)
        walk_at "z"
        refine ⟨g, x, rfl, g0, vx.1, vx.2, fun _ => by omega, fun b2 H8 hb2 s8 => ?_⟩
        refine .inr (.inl ⟨b2, rfl, ?_⟩)
        rw [bool_same hb hb2]
        refine ne_same rfl ?_
        walk_at "z"
        have vx8 := vx.same s8
        refine ⟨x, rfl, vx8.1.1, fun c hc => ?_⟩
        walk_at "z"
        refine ⟨x, rfl, vx8.1.1, fun c2 H9 hc2 s9 => ?_⟩
        rw [bool_same hc hc2]
        refine ne_same rfl ?_
        walk_at "z"
        exact hN2 _ _ ⟨_, rfl, (s7.trans s8).trans s9⟩
      · obtain ⟨o4, rfl, s7⟩ := h
        have K7 := K6.same s7
        have d8 := d7.same s7
        walk_at "z"
        refine ⟨D, _, rfl, d8, by decide, by decide, fun z1 H8 z2 z3 k8 d9 => ?_⟩
        walk_at "z"
        refine ⟨D, _, rfl, d9, by decide, by decide, fun y1 H9 y2 y3 k9 d10 => ?_⟩
        walk_at "z"
        have K9 := (K7.trans k8).trans k9
        obtain ⟨one, e1, o1, o2⟩ : ∃ t : Int, z1 - 1000 = t ∧ -1000 ≤ t ∧ t ≤ 1000 := ⟨_, rfl, by omega, by omega⟩
        obtain ⟨other, e2, o3, o9⟩ : ∃ t : Int, y1 + 1 = t ∧ 1 ≤ t ∧ t ≤ 1000 := ⟨_, rfl, by omega, by omega⟩
        rw [e1, e2]
        have pK : ∀ {Hx : Hp} {p : Addr} {x y : Int}, Kn2 (upd Hx p (.tup [.int x, .int y])) (.ref p) := (vg_tup (K := K) upd_same (all_cons (el_int _) (all_cons (el_int _) all_nil))).1
        have yes : ∀ {Hx : Hp} {p : Addr} {t b x y : Int}, Frac t b x y → x.natAbs ≤ t.natAbs → y.natAbs ≤ b.natAbs → t.natAbs ≤ 1000 → b.natAbs ≤ 1000 → NumV (upd Hx p (.tup [.int x, .int y])) 0 (.ref p) (10 ^ 60) := fun f a b c d => .inr ⟨rfl, _, _, ⟨_, rfl, upd_same⟩, ⟨by omega, by omega⟩, ⟨by omega, by omega⟩, f.1, f.2.1⟩
        have tail : ∀ Hx, Same H9 Hx → sp_fraction K [V.int one, V.int other] Hx (fun x H1 => sp_is_number K [V.int 0, x] H1 (fun x H' => ∃ k, x = V.bl k ∧ if k = false then Q (V.bl false) H' else sp_fraction K [V.int one, V.int (0 - other)] H' (fun x H1 => sp_is_number K [V.int 0, x] H1 (fun x H' => ∃ k, x = V.bl k ∧ if k = false then Q (V.bl false) H' else N [some (V.ref a), some (V.int (0 + (i : Int))), some (V.ref D), some (V.int (r1 - 20)), o4, some (V.int g), some (V.ref r3), some (V.int one), some (V.int other), none] H') E0) E0) E0) E0 := by
          intro Hx sx
          refine ⟨_, _, rfl, by omega, by omega, by omega, by omega, by omega, fun p x y hp f f1 f2 => ?_⟩
          refine ⟨0, _, rfl, (grd (by simp)).1, pK, fun b hb => ?_⟩
          rw [hb.mpr (yes f f1 f2 (by omega) (by omega))]
          refine ⟨true, rfl, ?_⟩
          rw [if_neg (by decide)]
          refine ⟨_, _, rfl, by omega, by omega, by omega, by omega, by omega, fun p2 x2 y2 hp2 f3 f4 f5 => ?_⟩
          refine ⟨0, _, rfl, (grd (by simp)).1, pK, fun b2 hb2 => ?_⟩
          rw [hb2.mpr (yes f3 f4 f5 (by omega) (by omega))]
          refine ⟨true, rfl, ?_⟩
          rw [if_neg (by decide)]
          exact hN _ _ ⟨_, _, _, _, _, _, _, _, rfl, s1.trans (((K9.same sx).same ((same_upd hp).trans (same_upd hp2))).out (Same.refl _) hD)⟩
        refine ⟨g, one, rfl, hg, by omega, by omega, fun e p hp => ?_, fun e => ?_⟩
        · subst e
          refine ⟨0, _, rfl, hg, pK, fun b hb => ?_⟩
          rw [hb.mpr (.inr ⟨rfl, _, _, ⟨_, rfl, upd_same⟩, ⟨by omega, by omega⟩, ⟨by omega, by omega⟩, by decide, by simp⟩)]
          refine ⟨true, rfl, ?_⟩
          rw [if_neg (by decide)]
          exact tail _ (same_upd hp)
        · refine ⟨g, _, rfl, hg, (vg_int (K := K)).1, fun b hb => ?_⟩
          rw [hb.mpr (.inl ⟨e, _, rfl, Int.emod_nonneg _ e, Int.emod_lt_of_pos _ (by omega)⟩)]
          refine ⟨true, rfl, ?_⟩
          rw [if_neg (by decide)]
          exact tail _ (Same.refl _)
  · obtain ⟨o1, o2, o3, o4, o5, o6, o7, o8, rfl, s1⟩ := h
    unfold t_law_k4_b
    walk_at "z"
    refine ⟨by decide, fun p hp => ?_⟩
    refine ⟨0, _, rfl, (grd (by simp)).1, ⟨.inr (.inl ⟨_, upd_same⟩), ?_⟩, fun b1 hb1 => ?_⟩
    · rintro xs ⟨a', e, h⟩ x hx
      cases e
      rw [upd_same] at h
      cases h
      simp only [List.mem_cons, List.not_mem_nil, or_false] at hx
      rcases hx with rfl | rfl <;> exact trivial
    refine ⟨5, _, rfl, (grd (by simp)).1, (vg_int (K := K)).1, fun b2 hb2 => ?_⟩
    refine ⟨0, _, rfl, (grd (by simp)).1, (vg_int (K := K)).1, fun b3 hb3 => ?_⟩
    refine ⟨_, rfl, trivial, fun b4 hb4 => ⟨_, rfl, trivial, fun b5 hb5 => ⟨_, rfl, trivial, fun b6 hb6 => ⟨_, rfl, trivial, fun b7 hb7 => ?_⟩⟩⟩⟩
    have e1 : b1 = false := by
      refine Bool.eq_false_iff.mpr fun h => ?_
      have h := hb1.mp h
      rcases h with ⟨h, _⟩ | ⟨_, t, b, h2, _, _, _, h3⟩
      · exact h rfl
      · have := h2.inj ⟨p, rfl, upd_same⟩
        simp at this
        rw [this.1, this.2] at h3
        simp at h3
    have e2 : b2 = false := by
      refine Bool.eq_false_iff.mpr fun h => ?_
      rcases hb2.mp h with ⟨_, n, e, _, h⟩ | ⟨h, _⟩
      · cases e; omega
      · cases h
    have e3 : b3 = false := by
      refine Bool.eq_false_iff.mpr fun h => ?_
      rcases hb3.mp h with ⟨h, _⟩ | ⟨_, t, b, ⟨_, e, _⟩, _⟩
      · exact h rfl
      · cases e
    have e4 : b4 = false := by
      refine Bool.eq_false_iff.mpr fun h => ?_
      obtain ⟨n, e, _, _, h | h⟩ := hb4.mp h
      · cases e; cases h
      · cases e; exact absurd h.1 (by decide)
    have e5 : b5 = true := hb5.mpr (grd (by simp)).1
    have e6 : b6 = false := by
      refine Bool.eq_false_iff.mpr fun h => ?_
      obtain ⟨n, e, _, h, _⟩ := hb6.mp h
      cases e; omega
    have e7 : b7 = false := by
      refine Bool.eq_false_iff.mpr fun h => ?_
      obtain ⟨n, e, _⟩ := hb7.mp h
      cases e
    subst e1 e2 e3 e4 e5 e6 e7
    refine ⟨by decide, fun r1 h1 => ⟨by decide, fun r2 h2 => ?_⟩⟩
    refine ⟨_, _, .lst (sqL_of (same_upd h2 _ _ upd_same)) (bl7 _ _ _ _ _ _ _), .lst (sqL_of upd_same) (bl7 _ _ _ _ _ _ _), by decide, rfl, ?_⟩
    refine ⟨true, rfl, ?_⟩
    walk_at "z"
    refine ⟨2, _, rfl, (grd (by simp)).1, (vg_int (K := K)).1, fun c1 hc1 => ?_⟩
    rw [hc1.mpr (.inl ⟨by decide, 1, rfl, by decide, by decide⟩)]
    walk_at "z"
    refine ⟨2, _, rfl, (grd (by simp)).1, (vg_bl (K := K)).1, fun c2 hc2 => ?_⟩
    have : c2 = false := by
      refine Bool.eq_false_iff.mpr fun h => ?_
      rcases hc2.mp h with ⟨_, n, e, _⟩ | ⟨h, _⟩
      · cases e
      · cases h
    subst this
    walk_at "z"
    exact hq _

theorem okF_law {P : Program} {w : World} {K : PySem.W.Frag} {mg : Str → Option Value} {base : Heap} {fd : FuncData} (T : Tx K mg) (F : FunD K "law" "law" (defArgs s_law) (defBody s_law) (defScope s_law) [] [] (He.ga K "law") fd) : FnOk P w K mg base CX0 7 (He.ga K "law") fd ["script"] (sp_law K) := by
  obtain ⟨fd_is_ground, F_is_ground, b_is_ground, g_is_ground, k_is_ground⟩ := ok_is_ground (P := P) (w := w) (base := base) T
  obtain ⟨fd_is_number, F_is_number, b_is_number, g_is_number, k_is_number⟩ := ok_is_number (P := P) (w := w) (base := base) T
  obtain ⟨fd_whole, F_whole, b_whole, g_whole, k_whole⟩ := ok_whole (P := P) (w := w) (base := base) T
  obtain ⟨fd_fraction, F_fraction, b_fraction, g_fraction, k_fraction⟩ := ok_fraction (P := P) (w := w) (base := base) T
  obtain ⟨fd__law_dice, F__law_dice, b__law_dice, g__law_dice, k__law_dice⟩ := ok__law_dice (P := P) (w := w) (base := base) T
  obtain ⟨fd__law_roll, F__law_roll, b__law_roll, g__law_roll, k__law_roll⟩ := ok__law_roll (P := P) (w := w) (base := base) T
  obtain ⟨fd__law_pick, F__law_pick, b__law_pick, g__law_pick, k__law_pick⟩ := ok__law_pick (P := P) (w := w) (base := base) T
  obtain ⟨fd__law_is_ground, F__law_is_ground, b__law_is_ground, g__law_is_ground, k__law_is_ground⟩ := ok__law_is_ground (P := P) (w := w) (base := base) T
  obtain ⟨fd__law_is_number, F__law_is_number, b__law_is_number, g__law_is_number, k__law_is_number⟩ := ok__law_is_number (P := P) (w := w) (base := base) T
  obtain ⟨fd__law_values, F__law_values, b__law_values, g__law_values, k__law_values⟩ := ok__law_values (P := P) (w := w) (base := base) T
  have hf_len := T.n_len
  have hf_list := T.n_list
  have hf_max := T.n_max
  have hf_min := T.n_min
  have hf_range := T.n_range
  have hf_repr := T.n_repr
  refine F.ok sc_law (fun vs H Q E h => len_law h) (fun cdv A outer s H vs Q E hr h => ⟨t_law K, PSs.nox ?_, pure_law K vs H Q E h⟩)
  have hu64 := hu64_of hr
  exact (pss_cons (ps_for PassesOwn.never rfl (pi_range1 rfl hf_range (pa_cons (pe_callB (call_max2 rfl) (by rfl) hf_max (by decide +kernel) (pa_cons pe_int (pa_cons (pe_callB (call_min2 rfl) (by rfl) hf_min (by decide +kernel) (pa_cons pe_int (pa_cons (pe_callB call_len_seq (by rfl) hf_len (by decide +kernel) (pa_cons (pv 0) pa_nil)) pa_nil))) pa_nil))) pa_nil)) (pg_name (i := 1) sc_law.nd rfl (by first | exact Or.inl rfl | exact Or.inr rfl)) (pss_cons (ps_set (i := 2) sc_law.nd rfl (by first | exact Or.inl rfl | exact Or.inr rfl) (pe_call F__law_dice (hr.mono (by decide)) rfl g__law_dice k__law_dice b__law_dice .nil pass0 (pa_cons (pv 0) (pa_cons (pv 1) pa_nil))))
      (pss_cons (ps_set (i := 3) sc_law.nd rfl (by first | exact Or.inl rfl | exact Or.inr rfl) (pe_op op_sub (pe_call F__law_roll (hr.mono (by decide)) rfl g__law_roll k__law_roll b__law_roll .nil pass0 (pa_cons (pv 2) (pa_cons pe_int pa_nil))) pe_int))
      (pss_cons (ps_for PassesOwn.never rfl (pi_list (pe_op op_cat (pe_listRg rfl rfl hf_list (prg_2 rfl hf_range (pv 3) (pe_op op_add (pv 3) pe_int))) (pe_lst (pa_cons pe_int (pa_cons pe_int (pa_cons pe_int (pa_cons pe_int (pa_cons pe_int (pa_cons pe_int (pa_cons (pe_op op_mulU pe_int pe_int) (pa_cons (pe_op op_mulU pe_int pe_int) pa_nil))))))))))) (pg_name (i := 4) sc_law.nd rfl (by first | exact Or.inl rfl | exact Or.inr rfl)) (pss_one (ps_if (pt_cmpR op_ne (pe_call F_is_ground (hr.mono (by decide)) rfl g_is_ground k_is_ground b_is_ground .nil pass0 (pa_cons (pv 4) pa_nil)) (pe_call F__law_is_ground (hr.mono (by decide)) rfl g__law_is_ground k__law_is_ground b__law_is_ground .nil pass0 (pa_cons (pv 4) pa_nil)) (nomark _)) (pss_one (ps_ret pe_bl)) pss_nil)))
      (pss_cons (ps_set (i := 5) sc_law.nd rfl (by first | exact Or.inl rfl | exact Or.inr rfl) (pe_call F__law_pick (hr.mono (by decide)) rfl g__law_pick k__law_pick b__law_pick .nil pass0 (pa_cons (pv 2) (pa_cons (pe_lst (pa_cons pe_int (pa_cons pe_int (pa_cons pe_int (pa_cons pe_int (pa_cons pe_int (pa_cons pe_int (pa_cons pe_int pa_nil)))))))) pa_nil))))
      (pss_cons (ps_set (i := 6) sc_law.nd rfl (by first | exact Or.inl rfl | exact Or.inr rfl) (pe_op op_cat (pe_op op_cat (pe_call F__law_values (hr.mono (by decide)) rfl g__law_values k__law_values b__law_values .nil pass0 (pa_cons (pv 2) pa_nil)) (pe_listRg rfl rfl hf_list (prg_2 rfl hf_range (pe_un un_neg pe_int) pe_int))) (pe_lst (pa_cons (pv 5) (pa_cons (pe_op op_sub (pv 5) pe_int) (pa_cons (pe_op op_add (pv 5) pe_int) pa_nil))))))
      (pss_cons (ps_for PassesOwn.never rfl (pi_list (pv 6)) (pg_name (i := 4) sc_law.nd rfl (by first | exact Or.inl rfl | exact Or.inr rfl)) (pss_one (ps_if (PW.pt (pw_or (pt_cmpR op_ne (pe_callB cr_reprU (by rfl) hf_repr (by decide +kernel) (pa_cons (pe_call F_is_number (hr.mono (by decide)) rfl g_is_number k_is_number b_is_number .nil pass0 (pa_cons (pv 5) (pa_cons (pv 4) pa_nil))) pa_nil)) (pe_callB cr_reprU (by rfl) hf_repr (by decide +kernel) (pa_cons (pe_call F__law_is_number (hr.mono (by decide)) rfl g__law_is_number k__law_is_number b__law_is_number .nil pass0 (pa_cons (pv 5) (pa_cons (pv 4) pa_nil))) pa_nil)) (nomark _)) (pw_or1 (pt_cmpR op_ne (pe_call F_is_ground (hr.mono (by decide)) rfl g_is_ground k_is_ground b_is_ground .nil pass0 (pa_cons (pv 4) pa_nil)) (pe_call F__law_is_ground (hr.mono (by decide)) rfl g__law_is_ground k__law_is_ground b__law_is_ground .nil pass0 (pa_cons (pv 4) pa_nil)) (nomark _))))) (pss_one (ps_ret pe_bl)) pss_nil)))
      (pss_cons (ps_par (i := 7) (j := 8) rfl sc_law.nd rfl rfl (by decide) rfl rfl (pa_cons (pe_op op_sub (pe_call F__law_roll (hr.mono (by decide)) rfl g__law_roll k__law_roll b__law_roll .nil pass0 (pa_cons (pv 2) (pa_cons pe_int pa_nil))) pe_int) (pa_cons (pe_op op_add (pe_call F__law_roll (hr.mono (by decide)) rfl g__law_roll k__law_roll b__law_roll .nil pass0 (pa_cons (pv 2) (pa_cons pe_int pa_nil))) pe_int) pa_nil)) (by rfl))
      (pss_one (ps_if (PW.pt (pw_or (pt_not (pt_val (pe_call F_is_number (hr.mono (by decide)) rfl g_is_number k_is_number b_is_number .nil pass0 (pa_cons (pv 5) (pa_cons (pe_call F_whole (hr.mono (by decide)) rfl g_whole k_whole b_whole .nil pass0 (pa_cons (pv 5) (pa_cons (pv 7) pa_nil))) pa_nil))))) (pw_or (pt_not (pt_val (pe_call F_is_number (hr.mono (by decide)) rfl g_is_number k_is_number b_is_number .nil pass0 (pa_cons pe_int (pa_cons (pe_call F_fraction (hr.mono (by decide)) rfl g_fraction k_fraction b_fraction .nil pass0 (pa_cons (pv 7) (pa_cons (pv 8) pa_nil))) pa_nil))))) (pw_or1 (pt_not (pt_val (pe_call F_is_number (hr.mono (by decide)) rfl g_is_number k_is_number b_is_number .nil pass0 (pa_cons pe_int (pa_cons (pe_call F_fraction (hr.mono (by decide)) rfl g_fraction k_fraction b_fraction .nil pass0 (pa_cons (pv 7) (pa_cons (pe_op op_sub pe_int (pv 8)) pa_nil))) pa_nil))))))))) (pss_one (ps_ret pe_bl)) pss_nil))))))))))
      (pss_cons (ps_set (i := 9) sc_law.nd rfl (by first | exact Or.inl rfl | exact Or.inr rfl) (pe_lst (pa_cons (pe_call F_is_number (hr.mono (by decide)) rfl g_is_number k_is_number b_is_number .nil pass0 (pa_cons pe_int (pa_cons (pe_tup (pa_cons pe_int (pa_cons pe_int pa_nil))) pa_nil))) (pa_cons (pe_call F_is_number (hr.mono (by decide)) rfl g_is_number k_is_number b_is_number .nil pass0 (pa_cons pe_int (pa_cons pe_int pa_nil))) (pa_cons (pe_call F_is_number (hr.mono (by decide)) rfl g_is_number k_is_number b_is_number .nil pass0 (pa_cons pe_int (pa_cons pe_int pa_nil))) (pa_cons (pe_call F_is_ground (hr.mono (by decide)) rfl g_is_ground k_is_ground b_is_ground .nil pass0 (pa_cons pe_int pa_nil)) (pa_cons (pe_call F_is_ground (hr.mono (by decide)) rfl g_is_ground k_is_ground b_is_ground .nil pass0 (pa_cons pe_int pa_nil)) (pa_cons (pe_call F_is_ground (hr.mono (by decide)) rfl g_is_ground k_is_ground b_is_ground .nil pass0 (pa_cons pe_int pa_nil)) (pa_cons (pe_call F_is_ground (hr.mono (by decide)) rfl g_is_ground k_is_ground b_is_ground .nil pass0 (pa_cons pe_bl pa_nil)) pa_nil)))))))))
      (pss_one (ps_ret (pe_and (pe_cmpR (op_eqD hu64) (pv 9) (pe_lst (pa_cons pe_bl (pa_cons pe_bl (pa_cons pe_bl (pa_cons pe_bl (pa_cons pe_bl (pa_cons pe_bl (pa_cons pe_bl pa_nil)))))))) (nomark _)) (pe_and (pe_call F_is_number (hr.mono (by decide)) rfl g_is_number k_is_number b_is_number .nil pass0 (pa_cons pe_int (pa_cons pe_int pa_nil))) (pe_one (pe_not (pe_call F_is_number (hr.mono (by decide)) rfl g_is_number k_is_number b_is_number .nil pass0 (pa_cons pe_int (pa_cons pe_bl pa_nil)))))))))))
/-! ### the head: facts by names, and what the imports bring -/
def bulOk (K : PySem.W.Frag) (bl : List (Str × String)) : Bool := bl.all fun q => decide (PySem.W.nsIn K mainGlobals q.1 = some (some (.builtin q.2)))
def obsB (bl : List (Str × String)) (fa : List He.Fa) (fn : List He.DefD) (K : PySem.W.Frag) : Bool × He.AlD := (bulOk K bl, He.obsD fa fn K)
def obsBG (n : Nat) (bl : List (Str × String)) (fa : List He.Fa) (fn : List He.DefD) (g : Addr → Option Obj) : Bool × He.AlD := obsB bl fa fn (He.frG g (He.asD g n))
def hookB (n : Nat) (bl : List (Str × String)) (fa : List He.Fa) (fn : List He.DefD) : PySem.W.Hook where
  α := Bool × He.AlD
  obs := fun s => obsBG n bl fa fn s.heap.get?
  val := fun _ => (true, He.valD fn)
  says := fun _ h => ∃ K : PySem.W.Frag, K.In h ∧ bulOk K bl = true ∧ He.SaysD fa fn K
  of := fun _ _ e => ⟨_, He.frG_in, congrArg (fun z : Bool × He.AlD => z.1) e, congrArg (fun z : Bool × He.AlD => z.2) e⟩
  keeps := fun _ _ _ ⟨K, hK, c⟩ k => ⟨K, PySem.W.Frag.In.keeps hK k, c⟩
theorem obsBG_eq {n : Nat} {bl : List (Str × String)} {fa : List He.Fa} {fn : List He.DefD} {g : Addr → Option Obj} {s : Shared} (h : ∀ a, g a = s.heap.get? a) : obsBG n bl fa fn g = (hookB n bl fa fn).obs s := by
  have e : g = s.heap.get? := funext h
  rw [e] <;> rfl
theorem bul_ok {K : PySem.W.Frag} {h : Heap} {mg : Str → Option Value} {bl : List (Str × String)} (X : K.In h) (G : h.Ns mainGlobals mg) (c : bulOk K bl = true) (i : Nat) {q : Str × String} (hi : bl[i]? = some q := by rfl) : mg q.1 = some (.builtin q.2) :=
  PySem.W.mg_of X G (of_decide_eq_true (List.all_eq_true.mp c q (List.mem_of_getElem? hi)))
def d_is_int : He.DefD := ⟨("is_int", none), "is_int", "is_int", defArgs s_is_int, defBody s_is_int, defScope s_is_int, [], []⟩
def d_has_no_parts : He.DefD := ⟨("has_no_parts", none), "has_no_parts", "has_no_parts", defArgs s_has_no_parts, defBody s_has_no_parts, defScope s_has_no_parts, [], []⟩
def d_bezout : He.DefD := ⟨("bezout", none), "bezout", "bezout", defArgs s_bezout, defBody s_bezout, defScope s_bezout, [], []⟩
def d_number_of : He.DefD := ⟨("number_of", none), "number_of", "number_of", defArgs s_number_of, defBody s_number_of, defScope s_number_of, [], []⟩
def d_is_below : He.DefD := ⟨("is_below", none), "is_below", "is_below", defArgs s_is_below, defBody s_is_below, defScope s_is_below, [], []⟩
def d_is_between : He.DefD := ⟨("is_between", none), "is_between", "is_between", defArgs s_is_between, defBody s_is_between, defScope s_is_between, [], []⟩
def d_undone_modulo : He.DefD := ⟨("undone_modulo", none), "undone_modulo", "undone_modulo", defArgs s_undone_modulo, defBody s_undone_modulo, defScope s_undone_modulo, [], []⟩
def d_prime_fits : He.DefD := ⟨("prime_fits", none), "prime_fits", "prime_fits", defArgs s_prime_fits, defBody s_prime_fits, defScope s_prime_fits, [], []⟩
def d_number_fits : He.DefD := ⟨("number_fits", none), "number_fits", "number_fits", defArgs s_number_fits, defBody s_number_fits, defScope s_number_fits, [], []⟩
def d_quotient : He.DefD := ⟨("quotient", none), "quotient", "quotient", defArgs s_quotient, defBody s_quotient, defScope s_quotient, [], []⟩
def d_check_integer : He.DefD := ⟨("check_integer", none), "check_integer", "check_integer", defArgs s_check_integer, defBody s_check_integer, defScope s_check_integer, [], []⟩
def d_ground_fits : He.DefD := ⟨("ground_fits", none), "ground_fits", "ground_fits", defArgs s_ground_fits, defBody s_ground_fits, defScope s_ground_fits, [], []⟩
def d_fraction : He.DefD := ⟨("fraction", none), "fraction", "fraction", defArgs s_fraction, defBody s_fraction, defScope s_fraction, [], []⟩
def d_check_ground : He.DefD := ⟨("check_ground", none), "check_ground", "check_ground", defArgs s_check_ground, defBody s_check_ground, defScope s_check_ground, [], []⟩
def d_is_ground : He.DefD := ⟨("is_ground", none), "is_ground", "is_ground", defArgs s_is_ground, defBody s_is_ground, defScope s_is_ground, [], []⟩
def d_is_number : He.DefD := ⟨("is_number", none), "is_number", "is_number", defArgs s_is_number, defBody s_is_number, defScope s_is_number, [], []⟩
def d_whole : He.DefD := ⟨("whole", none), "whole", "whole", defArgs s_whole, defBody s_whole, defScope s_whole, [], []⟩
def d__law_dice : He.DefD := ⟨("_law_dice", none), "_law_dice", "_law_dice", defArgs s__law_dice, defBody s__law_dice, defScope s__law_dice, [], []⟩
def d__law_roll : He.DefD := ⟨("_law_roll", none), "_law_roll", "_law_roll", defArgs s__law_roll, defBody s__law_roll, defScope s__law_roll, [], []⟩
def d__law_gcd : He.DefD := ⟨("_law_gcd", none), "_law_gcd", "_law_gcd", defArgs s__law_gcd, defBody s__law_gcd, defScope s__law_gcd, [], []⟩
def d__law_is_ground : He.DefD := ⟨("_law_is_ground", none), "_law_is_ground", "_law_is_ground", defArgs s__law_is_ground, defBody s__law_is_ground, defScope s__law_is_ground, [], []⟩
def d__law_is_short : He.DefD := ⟨("_law_is_short", none), "_law_is_short", "_law_is_short", defArgs s__law_is_short, defBody s__law_is_short, defScope s__law_is_short, [], []⟩
def d__law_pick : He.DefD := ⟨("_law_pick", none), "_law_pick", "_law_pick", defArgs s__law_pick, defBody s__law_pick, defScope s__law_pick, [], []⟩
def d__law_is_number : He.DefD := ⟨("_law_is_number", none), "_law_is_number", "_law_is_number", defArgs s__law_is_number, defBody s__law_is_number, defScope s__law_is_number, [], []⟩
def d__law_values : He.DefD := ⟨("_law_values", none), "_law_values", "_law_values", defArgs s__law_values, defBody s__law_values, defScope s__law_values, [], []⟩
def d_law : He.DefD := ⟨("law", none), "law", "law", defArgs s_law, defBody s_law, defScope s_law, [], []⟩
def fnl : List He.DefD := [d_is_int, d_has_no_parts, d_bezout, d_number_of, d_is_below, d_is_between, d_undone_modulo, d_prime_fits, d_number_fits, d_quotient, d_check_integer, d_ground_fits, d_fraction, d_check_ground, d_is_ground, d_is_number, d_whole, d__law_dice, d__law_roll, d__law_gcd, d__law_is_ground, d__law_is_short, d__law_pick, d__law_is_number, d__law_values, d_law]
def fal : List He.Fa := [.glo "is_int", .glo "has_no_parts", .glo "bezout", .glo "number_of", .glo "is_below", .glo "is_between", .glo "undone_modulo", .glo "prime_fits", .glo "number_fits", .glo "quotient", .glo "check_integer", .glo "ground_fits", .glo "fraction", .glo "check_ground", .glo "is_ground", .glo "is_number", .glo "whole", .glo "_law_dice", .glo "_law_roll", .glo "_law_gcd", .glo "_law_is_ground", .glo "_law_is_short", .glo "_law_pick", .glo "_law_is_number", .glo "_law_values", .glo "law", .int "LAST_GROUND" 9999, .int "SIXTY_DIGITS" 1000000000000000000000000000000000000000000000000000000000000, .free "abs", .free "bool", .free "int", .free "isinstance", .free "len", .free "list", .free "max", .free "min", .free "range", .free "repr", .free "str", .free "tuple"]
def bul : List (Str × String) := [("gcd", "math.gcd")]
def loose0 : List PySem.Str := ["PaperError", "InvalidGround", "InvalidOperation", "InvalidNumber", "LAST_GROUND", "is_int", "is_below", "is_between", "has_no_parts", "prime_fits", "ground_fits", "number_fits", "bezout", "undone_modulo", "quotient", "number_of", "SIXTY_DIGITS", "check_ground", "check_integer", "is_ground", "is_number", "whole", "fraction", "_law_dice", "_law_roll", "_law_pick", "_law_gcd", "_law_is_ground", "_law_is_short", "_law_is_number"]
def loose1 : List PySem.Str := ["_law_values"]
def looseL : List PySem.Str := loose0 ++ loose1
abbrev RR : PySem.W.OpenRow := PySem.W.OpenLaw.row PySem.Challenge.rw_zeroorone_k02_whole_grounds_and_numbers
abbrev hk : PySem.W.Hook := hookB 5 bul fal fnl
def obz (s : PySem.W.SharedT) : Bool × He.AlD := obsBG 5 bul fal fnl (HandSHeadRun.getT s)
theorem obz_eq (s : PySem.W.SharedT) : obz s = hk.obs s.abs := obsBG_eq (HandSHeadRun.getT_eq s)
theorem run (w : World) : HandSHeadRun.RunEqI RR (PySem.W.view RR.prog [0, 37]) hk obz 4000 looseL w := by
  unfold HandSHeadRun.RunEqI
  kernel_rfl
theorem tx_of {K : PySem.W.Frag} {h : Heap} {mg : Str → Option Value} (X : K.In h) (G : h.Ns mainGlobals mg) (b : bulOk K bul = true) (c : He.SaysD fal fnl K) : Tx K mg where
  f_is_int := c.def_ 0 (d := d_is_int) rfl
  g_is_int := He.glo_ok X G (c.fact 0 (f := .glo "is_int") rfl)
  f_has_no_parts := c.def_ 1 (d := d_has_no_parts) rfl
  g_has_no_parts := He.glo_ok X G (c.fact 1 (f := .glo "has_no_parts") rfl)
  f_bezout := c.def_ 2 (d := d_bezout) rfl
  g_bezout := He.glo_ok X G (c.fact 2 (f := .glo "bezout") rfl)
  f_number_of := c.def_ 3 (d := d_number_of) rfl
  g_number_of := He.glo_ok X G (c.fact 3 (f := .glo "number_of") rfl)
  f_is_below := c.def_ 4 (d := d_is_below) rfl
  g_is_below := He.glo_ok X G (c.fact 4 (f := .glo "is_below") rfl)
  f_is_between := c.def_ 5 (d := d_is_between) rfl
  g_is_between := He.glo_ok X G (c.fact 5 (f := .glo "is_between") rfl)
  f_undone_modulo := c.def_ 6 (d := d_undone_modulo) rfl
  g_undone_modulo := He.glo_ok X G (c.fact 6 (f := .glo "undone_modulo") rfl)
  f_prime_fits := c.def_ 7 (d := d_prime_fits) rfl
  g_prime_fits := He.glo_ok X G (c.fact 7 (f := .glo "prime_fits") rfl)
  f_number_fits := c.def_ 8 (d := d_number_fits) rfl
  g_number_fits := He.glo_ok X G (c.fact 8 (f := .glo "number_fits") rfl)
  f_quotient := c.def_ 9 (d := d_quotient) rfl
  g_quotient := He.glo_ok X G (c.fact 9 (f := .glo "quotient") rfl)
  f_check_integer := c.def_ 10 (d := d_check_integer) rfl
  g_check_integer := He.glo_ok X G (c.fact 10 (f := .glo "check_integer") rfl)
  f_ground_fits := c.def_ 11 (d := d_ground_fits) rfl
  g_ground_fits := He.glo_ok X G (c.fact 11 (f := .glo "ground_fits") rfl)
  f_fraction := c.def_ 12 (d := d_fraction) rfl
  g_fraction := He.glo_ok X G (c.fact 12 (f := .glo "fraction") rfl)
  f_check_ground := c.def_ 13 (d := d_check_ground) rfl
  g_check_ground := He.glo_ok X G (c.fact 13 (f := .glo "check_ground") rfl)
  f_is_ground := c.def_ 14 (d := d_is_ground) rfl
  g_is_ground := He.glo_ok X G (c.fact 14 (f := .glo "is_ground") rfl)
  f_is_number := c.def_ 15 (d := d_is_number) rfl
  g_is_number := He.glo_ok X G (c.fact 15 (f := .glo "is_number") rfl)
  f_whole := c.def_ 16 (d := d_whole) rfl
  g_whole := He.glo_ok X G (c.fact 16 (f := .glo "whole") rfl)
  f__law_dice := c.def_ 17 (d := d__law_dice) rfl
  g__law_dice := He.glo_ok X G (c.fact 17 (f := .glo "_law_dice") rfl)
  f__law_roll := c.def_ 18 (d := d__law_roll) rfl
  g__law_roll := He.glo_ok X G (c.fact 18 (f := .glo "_law_roll") rfl)
  f__law_gcd := c.def_ 19 (d := d__law_gcd) rfl
  g__law_gcd := He.glo_ok X G (c.fact 19 (f := .glo "_law_gcd") rfl)
  f__law_is_ground := c.def_ 20 (d := d__law_is_ground) rfl
  g__law_is_ground := He.glo_ok X G (c.fact 20 (f := .glo "_law_is_ground") rfl)
  f__law_is_short := c.def_ 21 (d := d__law_is_short) rfl
  g__law_is_short := He.glo_ok X G (c.fact 21 (f := .glo "_law_is_short") rfl)
  f__law_pick := c.def_ 22 (d := d__law_pick) rfl
  g__law_pick := He.glo_ok X G (c.fact 22 (f := .glo "_law_pick") rfl)
  f__law_is_number := c.def_ 23 (d := d__law_is_number) rfl
  g__law_is_number := He.glo_ok X G (c.fact 23 (f := .glo "_law_is_number") rfl)
  f__law_values := c.def_ 24 (d := d__law_values) rfl
  g__law_values := He.glo_ok X G (c.fact 24 (f := .glo "_law_values") rfl)
  f_law := c.def_ 25 (d := d_law) rfl
  g_law := He.glo_ok X G (c.fact 25 (f := .glo "law") rfl)
  c_LAST_GROUND := He.int_ok X G (c.fact 26 (f := .int "LAST_GROUND" 9999) rfl)
  c_SIXTY_DIGITS := He.int_ok X G (c.fact 27 (f := .int "SIXTY_DIGITS" 1000000000000000000000000000000000000000000000000000000000000) rfl)
  n_abs := He.free_ok X G (c.fact 28 (f := .free "abs") rfl)
  n_bool := He.free_ok X G (c.fact 29 (f := .free "bool") rfl)
  n_int := He.free_ok X G (c.fact 30 (f := .free "int") rfl)
  n_isinstance := He.free_ok X G (c.fact 31 (f := .free "isinstance") rfl)
  n_len := He.free_ok X G (c.fact 32 (f := .free "len") rfl)
  n_list := He.free_ok X G (c.fact 33 (f := .free "list") rfl)
  n_max := He.free_ok X G (c.fact 34 (f := .free "max") rfl)
  n_min := He.free_ok X G (c.fact 35 (f := .free "min") rfl)
  n_range := He.free_ok X G (c.fact 36 (f := .free "range") rfl)
  n_repr := He.free_ok X G (c.fact 37 (f := .free "repr") rfl)
  n_str := He.free_ok X G (c.fact 38 (f := .free "str") rfl)
  n_tuple := He.free_ok X G (c.fact 39 (f := .free "tuple") rfl)
  b_gcd := bul_ok X G b 0
end L2.Z
open PySem PySem.W PySem.Calls PyProof.Rows
theorem PySem.Challenge.cw_zeroorone_k02_whole_grounds_and_numbers_holds : PySem.Challenge.rw_zeroorone_k02_whole_grounds_and_numbers.Holds := by
  w_on; o_law
  refine HandSHeadRun.head_imp (r := (OpenLaw.row PySem.Challenge.rw_zeroorone_k02_whole_grounds_and_numbers)) (q := view (OpenLaw.row PySem.Challenge.rw_zeroorone_k02_whole_grounds_and_numbers).prog [0, 37]) (H := L2.Z.hk) (ob := L2.Z.obz) (loose := L2.Z.looseL) (d := HandSHeadRun.topDef (OpenLaw.row PySem.Challenge.rw_zeroorone_k02_whole_grounds_and_numbers).prog 37) (kwd := []) L2.Z.obz_eq
    L2.Z.run (by kernel_rfl) (by kernel_rfl) (by kernel_rfl) (by rfl) (by first | assumption | decide +kernel) (by decide +kernel) ⟨rfl, rfl, rfl, rfl, rfl, by decide +kernel⟩ ?hw ?hc
  case hw => w_witness2
  case hc =>
    refine L2.walk_ofE (l := PySem.Challenge.rw_zeroorone_k02_whole_grounds_and_numbers) (n := 63) (k := 7) (x := "script") (CX := L2.CX0) rfl (by decide) (by kernel_rfl) ⟨rfl, by decide, by decide⟩ ?F (fun _ _ _ _ z => z)
    intro w mg fa h Y G hmg0
    obtain ⟨K, KX, bb, cc⟩ := Y
    have T := L2.Z.tx_of KX G bb cc
    have hmg : mg ("law" : PySem.Str) = some (.ref fa) := by
      have e : (HandSHeadRun.topDef (OpenLaw.row PySem.Challenge.rw_zeroorone_k02_whole_grounds_and_numbers).prog 37).name = ("law" : PySem.Str) := by kernel_rfl
      rw [← e]
      exact hmg0
    have e := hmg.symm.trans T.g_law
    cases e
    obtain ⟨fd, F⟩ := T.f_law
    have hb := L2.FunD.bindsA (ps := ["script"]) F fun _ _ _ _ _ _ us hl => match us, hl with | [_], _ => rfl
    refine ⟨K, fd, L2.Z.sp_law K, KX, fun s v => hb s [v] rfl, fun H a ns hl _ hS => ⟨a, ns, rfl, hS, hl, fun _ => rfl⟩, fun base _ _ => L2.Z.okF_law T F⟩
