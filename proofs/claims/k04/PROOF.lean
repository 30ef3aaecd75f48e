import PyProof.Rows.All
import Wide.All
import OpenK.AllK
import Wide.FinOn
import HandS.ForMost
import HandS.Wide
import HandS.Gcd
import HandS.More
import HandS.IsInst
import HandS.Defaults
import HandS.SortInts
import HandS.Zip
import HandS.TupAny
import HandS.Conv
import HandS.Style
import HandS.RaiseMore
import HandS.Head0
import HandS.Head1
import HandS.Head2
import HandS.Head3
import HandS.HeadEnd
import HandS.HeadHook1
import HandS.HeadHook2
import HandS.Small
import KE.GoesEnum
import PySem.Challenge.RW_zeroorone_k04_whole_primes_and_their_pap
set_option Elab.async false
set_option linter.all false
set_option maxRecDepth 100000
set_option maxHeartbeats 2000000
namespace L2.Z
open PySem PySem.Spec PyProof.Rows
abbrev rAdd : R2 := rI0 fun i j => .int (i + j)
abbrev rSub : R2 := rI0 fun i j => .int (i - j)
abbrev rModU : R2 := rI (fun _ j => 0 < j) fun i j => .int (i % j)
abbrev rDivU : R2 := rI CDivW fun i j => .int (i / j)
abbrev rPowU : R2 := rI CPow fun i j => .int (i ^ j.toNat)
abbrev rMulU : R2 := rI (fun i j => CMul i j ∨ CMulW i j) fun i j => .int (i * j)
abbrev rNeg : V → Hp → VK → Prop := rU fun i => .int (-i)
/-- // by any divisor but 0 below 2 ^ 9000 -/
def CDivZ (_ j : Int) : Prop := j ≠ 0 ∧ j.natAbs.log2 < 9000
abbrev rDivZ : R2 := rI CDivZ fun i j => .int (i.fdiv j)
theorem op_fdivZ {X : Cx} : OpR X (binaryOp .FloorDiv) rDivZ := opI fun i j _ _ _ _ _ hc q => floordiv_int hc.1 q (.inl (PyProof.noPylong_of_log2 hc.2))
abbrev rStrI : List V → Hp → VK → Prop := fun xs H Q => ∃ i : Int, xs = [.int i] ∧ i.natAbs.log2 < 1920 ∧ Q (.str (toString i)) H
/-- repr of plain values -/
def tTru (K : PySem.W.Frag) (te : TE) : TT := fun σ H Qt => te σ H fun x H1 => ∃ k, TruV K x H1 k ∧ Qt k H1
theorem pt_tru {X : Cx} {K : PySem.W.Frag} {a : PySem.Expr} {ta : TE} (hk : X.K = K) (h : PE X a ta) (he : ∀ whole : PySem.Sem PySem.Value, PySem.isTrue a X.env whole = do
          let v ← whole
          PySem.standAt a.pos
          PySem.holding [v] (PySem.truthy v)) : PT X a (tTru K ta) := by
  subst hk
  exact pt_truth h he
def rMinT : List V → Hp → VK → Prop := fun vs H Q => ∃ (a : Addr) (ns : List Int), vs = [.ref a] ∧ H a = some (.tup (ns.map V.int)) ∧ 0 < ns.length ∧ ∀ m, m ∈ ns → (∀ y ∈ ns, m ≤ y) → Q (.int m) H
theorem vals_ints : ∀ {ns : List Int} {its : List Value}, Vals (ns.map V.int) its → its.length = ns.length ∧ ∀ (i : Nat) (v : Value), its[i]? = some v → ∃ t, v = Value.int (ns.getD i 0) t := by
  intro ns
  induction ns with
  | nil => intro its h; cases h; exact ⟨rfl, fun i v e => by simp at e⟩
  | cons n r ih =>
    intro its h
    cases h with
    | cons h1 h2 =>
      obtain ⟨l, g⟩ := ih h2
      refine ⟨by simp [l], fun i v e => ?_⟩
      cases i with
      | zero =>
        simp only [List.getElem?_cons_zero, Option.some.injEq] at e
        subst e
        obtain ⟨t, e⟩ := h1
        exact ⟨t, by simpa using e⟩
      | succ i =>
        rw [List.getElem?_cons_succ] at e
        obtain ⟨t, e⟩ := g i v e
        exact ⟨t, by simpa using e⟩
theorem cr_minT {X : Cx} (hc : X.calm = true) : CallR X (.builtin "min") rMinT := by
  intro pins s σ H xs us Q I r h
  obtain ⟨a, ns, rfl, hT, hn, hq⟩ := h
  obtain ⟨u, rfl, r1⟩ := vals1 r
  cases (show u = Value.ref a from r1)
  obtain ⟨its, hv, hI, _⟩ := I.tuple (.inl (.inl hT))
  obtain ⟨hl, hg⟩ := vals_ints hv
  refine PySem.call_min_walk ?_
  refine PySem.wpAny_pyIter_tuple (items := its.toArray) ?_ ?_
  · exact hI
  · obtain ⟨o, ho, hcl, hdt⟩ := hI
    have hlt : a < s.heap.objs.size := by
      refine Nat.lt_of_not_le fun c => ?_
      have : s.heap.get? a = none := by
        simp [PySem.Heap.get?, c]
      rw [ho] at this
      cases this
    have hne : a ≠ s.heap.objs.size := Nat.ne_of_lt hlt
    have push_old : ∀ (b : Addr) (u x : Obj), s.heap.get? b = some u → (s.heap.push x).get? b = some u := fun b u x hb => by
      have hlb : b < s.heap.objs.size := by
        refine Nat.lt_of_not_le fun c => ?_
        have : s.heap.get? b = none := by simp [PySem.Heap.get?, c]
        rw [hb] at this
        cases this
      simp only [PySem.Heap.get?, PySem.Heap.push] at hb ⊢
      rw [Array.getElem?_push, if_neg (Nat.ne_of_lt hlb)]
      exact hb
    refine ⟨_, _, _, _, _, _, _, rfl, PySem.Walks.tuple ?_ s.heap.objs.size a hne its.toArray, ⟨⟨{ cls := Value.type "tuple_iterator", data := Data.fields #[Value.ref a, Value.int 0 0] }, ?_, rfl, rfl⟩, ⟨o, push_old a o _ ho, hcl, hdt⟩⟩, ?_, ?_, PySem.CmpOf.ints_lt (fun i => ns.getD i 0) (fun i v e => hg i v (by simpa using e)), fun v h' tk hP hk => ?_⟩
    · exact (I.ok.hd hc)
    · simp [PySem.Heap.get?, PySem.Heap.push]
    · intro b hb
      have : (s.heap.push { cls := Value.type "tuple_iterator", data := Data.fields #[Value.ref a, Value.int 0 0] }).objs.size = s.heap.objs.size + 1 := by simp [PySem.Heap.push]
      show b < (s.heap.push { cls := Value.type "tuple_iterator", data := Data.fields #[Value.ref a, Value.int 0 0] }).objs.size
      rw [this]
      simp only [List.mem_cons, List.not_mem_nil, or_false] at hb
      rcases hb with rfl | rfl
      · exact Nat.lt_succ_self _
      · exact Nat.lt_succ_of_lt hlt
    · simp only [List.size_toArray]; omega
    · obtain ⟨b1, b2⟩ := PySem.argBest_lt (fun i => ns.getD i 0) (its.toArray.size - 1)
      generalize argBest (fun i j => decide (ns.getD i 0 < ns.getD j 0)) (its.toArray.size - 1) = k at *
      simp only [List.size_toArray] at b1 b2
      obtain ⟨t, rfl⟩ := hg k v (by simpa using hP)
      have hk1 : k < ns.length := by omega
      refine ⟨.int (ns.getD k 0), H, I.kept (h' := h') (t' := tk) (fun b u hb => hk b u ?_ (push_old b u _ hb)), ⟨t, rfl⟩, hq _ ?_ fun y hy => ?_⟩
      · intro c
        rw [List.mem_singleton] at c
        subst c
        simp [PySem.Heap.get?] at hb
      · rw [List.getD_eq_getElem?_getD, List.getElem?_eq_getElem hk1]
        exact List.getElem_mem hk1
      · obtain ⟨j, hj, rfl⟩ := List.getElem_of_mem hy
        have := b2 j (by omega)
        rw [List.getD_eq_getElem?_getD (i := j), List.getElem?_eq_getElem hj] at this
        exact this
def rSortedDI : List V → Hp → VK → Prop := fun xs H Q => ∃ (a : Addr) (kvs : List (Key × V)) (ks : List Int), xs = [.ref a] ∧ Rd H a (.dK kvs) ∧ kvs.map (·.1) = ks.map Sum.inl ∧ ks.length < 64 ∧ ∀ (ys : List Int) (p : Addr), ys.Perm ks → ys.Pairwise (· ≤ ·) → H p = none → Q (.ref p) (upd H p (.lst (ys.map V.int)))
theorem cr_sortedDI {X : Cx} (hc : X.calm = true) : CallR X (.builtin "sorted") rSortedDI := call_sortedDI hc
def rReprU : List V → Hp → VK → Prop := fun xs H Q => (∃ i : Int, xs = [.int i] ∧ i.natAbs.log2 < 1920 ∧ Q (.str (toString i)) H) ∨ (∃ b : Bool, xs = [.bl b] ∧ Q (.str (if b then "True" else "False")) H) ∨ (xs = [.non] ∧ Q (.str "None") H)
theorem cr_reprU {X : Cx} : CallR X (.builtin "repr") rReprU := by
  intro pins s σ H xs us Q I r h
  rcases h with h | ⟨b, e, q⟩ | ⟨e, q⟩
  · exact SkE.call_repr_int pins s σ H xs us Q I r h
  · subst e
    obtain ⟨u, e1, r1⟩ := vals1 r
    subst e1
    cases (show u = Value.bool b from r1)
    exact PySem.P.repr_of_bool ⟨.str _, H, I.tok _, ⟨_, rfl⟩, q⟩
  · subst e
    obtain ⟨u, e1, r1⟩ := vals1 r
    subst e1
    cases (show u = Value.none from r1)
    exact PySem.P.repr_of_none ⟨.str _, H, I.tok _, ⟨_, rfl⟩, q⟩
abbrev rLtI : R2 := rI0 fun i j => .bl (decide (i < j))
abbrev rLeI : R2 := rI0 fun i j => .bl (decide (i ≤ j))
abbrev rGtI : R2 := rI0 fun i j => .bl (decide (j < i))
abbrev rGeI : R2 := rI0 fun i j => .bl (decide (j ≤ i))
abbrev rLenU (K : PySem.W.Frag) : List V → Hp → VK → Prop := fun xs H Q => ∃ p ys, xs = [.ref p] ∧ (SqL K H p ys ∨ SqT K H p ys) ∧ Q (.int ys.length) H
abbrev rAbs : List V → Hp → VK → Prop := fun xs H Q => ∃ i : Int, xs = [.int i] ∧ Q (.int (if i < 0 then -i else i)) H
abbrev rMax2 : List V → Hp → VK → Prop := fun xs H Q => ∃ i j : Int, xs = [.int i, .int j] ∧ Q (.int (if j > i then j else i)) H
abbrev rMin2 : List V → Hp → VK → Prop := fun xs H Q => ∃ i j : Int, xs = [.int i, .int j] ∧ Q (.int (if j < i then j else i)) H
abbrev rInt1 : List V → Hp → VK → Prop := fun xs H Q => (∃ i, xs = [.int i] ∧ Q (.int i) H) ∨ ∃ k, xs = [.bl k] ∧ Q (.int (if k then 1 else 0)) H
abbrev rTupOf (K : PySem.W.Frag) : List V → Hp → VK → Prop := fun xs H Q => ∃ p ys, xs = [.ref p] ∧ ((SqL K H p ys ∧ ∀ l, H l = none → Q (.ref l) (upd H l (.tup ys))) ∨ (SqT K H p ys ∧ Q (.ref p) H))
abbrev rListOf (K : PySem.W.Frag) : List V → Hp → VK → Prop := fun xs H Q => ∃ p ys, xs = [.ref p] ∧ (SqL K H p ys ∨ SqT K H p ys) ∧ ∀ l, H l = none → Q (.ref l) (upd H l (.lst ys))
abbrev rIxA (K : PySem.W.Frag) : R2 := fun x y H Q => rIxL K x y H Q ∨ rIxT K x y H Q
theorem ix_lt {X : Cx} : IxR X (rIxA X.K) := ix_list.or ix_tup
theorem op_mulU {X : Cx} : OpR X (binaryOp .Mult) rMulU := opI fun _ _ _ _ _ _ _ hc q => mul_int q (hc.elim CMul.ok CMulW.ok)
theorem hu64_of {A : Around} {k : Nat} (hr : Room k A) : A.units + 64 < cLine := by have := hr.un; omega
def Okk (P : Program) (w : World) (K : PySem.W.Frag) (mg : Str → Option Value) (base : Heap) (k : Nat) (x : Str) (ps : List Str) (sp : Sp) : Prop :=
  ∃ fd, FnOk P w K mg base CX0 k (He.ga K x) fd ps sp ∧ Binds K fd ps [] ∧ mg x = some (.ref (He.ga K x)) ∧ PySem.W.keepIn K (.ref (He.ga K x)) = true
def LcW (J : It) (H1 : Hp) (g : TG) (tt : TT) (te : TE) (vs : List Nat) (σ : St) (Q : VK) : Prop := tLc (fun _ _ R => R J H1) g tt te vs σ H1 Q
def ForW (J : It) (H1 : Hp) (g : TG) (tb : TS) (D : Ends) (σ : St) : Prop := tFor (fun _ _ R => R J H1) g tb D σ H1
section
variable {σ : St} {H : Hp} {Q : VK} {v x y : V} {ta tb tc te : TE} {r r' : R2} {t u : TT} {n : Nat} {D : Ends} {s s' : TS} {g : TG} {K : PySem.W.Frag} {tl : TA} {QA : List V → Hp → Prop} {QT : Bool → Hp → Prop}
theorem z_var0 : tVar 0 (some v :: σ) H Q = Q v H := propext ⟨fun ⟨_, h, q⟩ => by cases h; exact q, fun q => ⟨_, rfl, q⟩⟩
theorem z_varS {o : Option V} : tVar (n + 1) (o :: σ) H Q = tVar n σ H Q := rfl
theorem z_C : tC v σ H Q = Q v H := rfl
theorem z_op : tOp r ta tb σ H Q = ta σ H fun x H1 => tb σ H1 fun y H2 => r x y H2 Q := rfl
theorem z_un {f : V → Hp → VK → Prop} : tUn f ta σ H Q = ta σ H fun x H1 => f x H1 Q := rfl
theorem z_I0 {f : Int → Int → V} {i j : Int} : rI0 f (.int i) (.int j) H Q = Q (f i j) H := propext ⟨fun ⟨_, _, e1, e2, q⟩ => by cases e1; cases e2; exact q, fun q => ⟨_, _, rfl, rfl, q⟩⟩
theorem z_I {C : Int → Int → Prop} {f : Int → Int → V} {i j : Int} : rI C f (.int i) (.int j) H Q = (C i j ∧ Q (f i j) H) := propext ⟨fun ⟨_, _, e1, e2, q⟩ => by cases e1; cases e2; exact q, fun q => ⟨_, _, rfl, rfl, q⟩⟩
theorem z_U {f : Int → V} {i : Int} : rU f (.int i) H Q = Q (f i) H := propext ⟨fun ⟨_, e1, q⟩ => by cases e1; exact q, fun q => ⟨_, rfl, q⟩⟩
theorem z_eqI {i j : Int} : rEq (.int i) (.int j) H Q = Q (.bl (decide (i = j))) H := by
  have e : decide (V.int i = V.int j) = decide (i = j) := by simp
  unfold rEq; rw [e]; exact propext ⟨fun h => h.2, fun h => ⟨rfl, h⟩⟩
theorem z_neI {i j : Int} : rNe (.int i) (.int j) H Q = Q (.bl (!decide (i = j))) H := by
  have e : decide (V.int i = V.int j) = decide (i = j) := by simp
  unfold rNe; rw [e]; exact propext ⟨fun h => h.2, fun h => ⟨rfl, h⟩⟩
theorem z_bl {b : Bool} {p : Bool → Prop} : (∃ k, V.bl b = V.bl k ∧ p k) = p b := propext ⟨fun ⟨_, e, q⟩ => by cases e; exact q, fun q => ⟨_, rfl, q⟩⟩
theorem z_test : tTest te σ H QT = te σ H fun x H' => ∃ k, x = .bl k ∧ QT k H' := rfl
theorem z_B : tB te σ H QT = te σ H fun x H' => ∃ k, x = .bl k ∧ QT k H' := rfl
theorem z_and : tAnd t u σ H QT = t σ H fun c H1 => if c = true then u σ H1 QT else QT false H1 := rfl
theorem z_or : tOr t u σ H QT = t σ H fun c H1 => if c = true then QT true H1 else u σ H1 QT := rfl
theorem z_not : tNot t σ H QT = t σ H fun c H1 => QT (!c) H1 := rfl
theorem z_andV : tAndV ta tb σ H Q = ta σ H fun x H1 => ∃ c, x = .bl c ∧ if c = true then tb σ H1 Q else Q (.bl false) H1 := rfl
theorem z_orV : tOrV ta tb σ H Q = ta σ H fun x H1 => ∃ c, x = .bl c ∧ if c = true then Q (.bl true) H1 else tb σ H1 Q := rfl
theorem z_notV : tNotV ta σ H Q = ta σ H fun x H1 => ∃ c, x = .bl c ∧ Q (.bl (!c)) H1 := rfl
theorem z_if : tIf t ta tb σ H Q = t σ H fun c H1 => if c = true then ta σ H1 Q else tb σ H1 Q := rfl
theorem z_ifS : tIfS t s s' D σ H = t σ H fun b H1 => if b = true then s D σ H1 else s' D σ H1 := rfl
theorem z_seq : tSeq s s' D σ H = s { D with nx := s' D } σ H := rfl
theorem z_next : tNext D σ H = D.nx σ H := rfl
theorem z_ret : tRet te D σ H = te σ H D.rt := rfl
theorem z_retN : tRetN D σ H = D.rt .non H := rfl
theorem z_asg : tAsg te g D σ H = te σ H fun x H1 => g x σ H1 D.nx := rfl
theorem z_gname {Qg : St → Hp → Prop} : gName n v σ H Qg = Qg (σ.set n (some v)) H := rfl
theorem z_drop : tDrop te D σ H = te σ H fun _ H1 => D.nx σ H1 := rfl
theorem z_nil : tNil σ H QA = QA [] H := rfl
theorem z_cons : tCons te tl σ H QA = te σ H fun x H1 => tl σ H1 fun xs H2 => QA (x :: xs) H2 := rfl
theorem z_call {sp : Sp} {E : XK} : tCall sp [] E tl σ H Q = tl σ H fun vs H1 => sp vs H1 Q E := by unfold tCall; simp only [List.append_nil]
theorem z_CB {f : List V → Hp → VK → Prop} : tCB f tl σ H Q = tl σ H fun vs H1 => f vs H1 Q := rfl
theorem z_par {i j : Nat} : tPar i j tl D σ H = tl σ H fun vs H1 => ∃ v w, vs = [v, w] ∧ D.nx ((σ.set i (some v)).set j (some w)) H1 := rfl
theorem z_pair {v w : V} {p : V → V → Prop} : (∃ a b, [v, w] = [a, b] ∧ p a b) = p v w := propext ⟨fun ⟨_, _, e, q⟩ => by cases e; exact q, fun q => ⟨_, _, rfl, q⟩⟩
theorem z_aug0 {ti : TIp} {σ' : St} {i : Nat} : tAug i te ti D σ H = ∃ x, σ[i]? = some (some x) ∧ te σ H fun y H1 => ti x y H1 fun z H2 => D.nx (σ.set i (some z)) H2 := rfl
theorem z_ipI {f : Int → Int → Int} {i j : Int} : ipI f (.int i) (.int j) H Q = Q (.int (f i j)) H := propext ⟨fun ⟨_, _, e1, e2, q⟩ => by cases e1; cases e2; exact q, fun q => ⟨_, _, rfl, rfl, q⟩⟩
theorem z_abs {i : Int} : rAbs [.int i] H Q = Q (.int (if i < 0 then -i else i)) H := propext ⟨fun ⟨_, e1, q⟩ => by cases e1; exact q, fun q => ⟨_, rfl, q⟩⟩
theorem z_max {i j : Int} : rMax2 [.int i, .int j] H Q = Q (.int (if j > i then j else i)) H := propext ⟨fun ⟨_, _, e1, q⟩ => by cases e1; exact q, fun q => ⟨_, _, rfl, q⟩⟩
theorem z_min {i j : Int} : rMin2 [.int i, .int j] H Q = Q (.int (if j < i then j else i)) H := propext ⟨fun ⟨_, _, e1, q⟩ => by cases e1; exact q, fun q => ⟨_, _, rfl, q⟩⟩
theorem z_int {i : Int} : rInt1 [.int i] H Q = Q (.int i) H := by
  apply propext
  constructor
  · intro h
    rcases h with ⟨_, e, q⟩ | ⟨_, e, _⟩
    · cases e; exact q
    · cases e
  · intro q
    exact Or.inl ⟨_, rfl, q⟩
theorem z_intB {b : Bool} : rInt1 [.bl b] H Q = Q (.int (if b then 1 else 0)) H := by
  apply propext
  constructor
  · intro h
    rcases h with ⟨_, e, _⟩ | ⟨_, e, q⟩
    · cases e
    · cases e; exact q
  · intro q
    exact Or.inr ⟨_, rfl, q⟩
theorem z_gcd {i j : Int} : rGcd [.int i, .int j] H Q = Q (.int ((Nat.gcd i.natAbs j.natAbs : Nat) : Int)) H := propext ⟨fun ⟨_, _, e, q⟩ => by cases e; exact q, fun q => ⟨_, _, rfl, q⟩⟩
theorem z_tup : tTup tl σ H Q = tl σ H fun xs H1 => xs.length ≤ sizeLine ∧ ∀ p, H1 p = none → Q (.ref p) (upd H1 p (.tup xs)) := rfl
theorem z_lst : tLst tl σ H Q = tl σ H fun xs H1 => xs.length ≤ sizeLine ∧ ∀ p, H1 p = none → Q (.ref p) (upd H1 p (.lst xs)) := rfl
theorem z_chain : tChain r r' ta tb tc σ H Q = ta σ H fun x H1 => tb σ H1 fun y H2 => r x y H2 fun z H3 => ∃ k, z = .bl k ∧ (if k = true then tc σ H3 fun w' H4 => r' y w' H4 Q else Q (.bl false) H3) := rfl
theorem z_bm {T : String} {f : V → List V → Hp → VK → Prop} {to : TE} : tBM K T f to tl σ H Q = to σ H fun x H1 => tyV K T x H1 ∧ tl σ H1 fun xs H2 => f x xs H2 Q := rfl
theorem z_bm0 {T : String} {f : V → List V → Hp → VK → Prop} {to : TE} : tBM0 K T f to σ H Q = to σ H fun x H1 => tyV K T x H1 ∧ f x [] H1 Q := rfl
theorem tyL {p : Addr} {xs : List V} (h : H p = some (.lst xs)) : tyV K "list" (.ref p) H := .inl ⟨rfl, _, .inl (.inl h)⟩
theorem z_gtup {m : Nat} {a : Addr} {gs : TGs} {Qg : St → Hp → Prop} : gTup K m gs (.ref a) σ H Qg = ∃ xs, SqT K H a xs ∧ xs.length = m ∧ gs xs σ H Qg := propext ⟨fun ⟨_, xs, e, h⟩ => by cases e; exact ⟨xs, h⟩, fun ⟨xs, h⟩ => ⟨a, xs, rfl, h⟩⟩
theorem z_gcons {gs : TGs} {r : List V} {Qg : St → Hp → Prop} : gCons g gs (v :: r) σ H Qg = g v σ H fun σ' H' => gs r σ' H' Qg := propext ⟨fun ⟨_, _, e, h⟩ => by cases e; exact h, fun h => ⟨v, r, rfl, h⟩⟩
theorem z_gnil {Qg : St → Hp → Prop} : gNil [] σ H Qg = Qg σ H := propext ⟨fun h => h.2, fun h => ⟨rfl, h⟩⟩
theorem z_yes : tYes σ H QT = QT true H := rfl
theorem z_wipe0 : wipe σ [] = σ := rfl
theorem z_wipeS {i : Nat} {is : List Nat} : wipe σ (i :: is) = (wipe σ is).set i none := rfl
theorem z_itup {R : It → Hp → Prop} : iTup K te σ H R = te σ H fun x H1 => ∃ a, x = .ref a ∧ (∃ xs, SqT K H1 a xs) ∧ R (Itt K a) H1 := rfl
theorem z_ilist {R : It → Hp → Prop} : iList K te σ H R = te σ H fun x H1 => ∃ a, x = .ref a ∧ (∃ xs, SqL K H1 a xs) ∧ R (Itl K a) H1 := rfl
theorem z_irng1 {R : It → Hp → Prop} : iRng1 tl σ H R = tl σ H fun vs H1 => ∃ j : Int, vs = [.int j] ∧ -(2 ^ 62) ≤ j ∧ j < 2 ^ 62 ∧ R (Itr 0 j.toNat) H1 := rfl
theorem z_irng2 {R : It → Hp → Prop} : iRng2 tl σ H R = tl σ H fun vs H1 => ∃ i j : Int, vs = [.int i, .int j] ∧ (-(2 ^ 62) ≤ i ∧ i < 2 ^ 62 ∧ -(2 ^ 62) ≤ j ∧ j < 2 ^ 62) ∧ R (Itr i (j - i).toNat) H1 := rfl
theorem z_lc {wi : TI} {vs : List Nat} : tLc wi g t te vs σ H Q = wi σ H fun J H1 => LcW J H1 g t te vs σ Q := rfl
theorem z_for {wi : TI} {tb : TS} : tFor wi g tb D σ H = wi σ H fun J H1 => ForW J H1 g tb D σ := rfl
theorem z_gsub {to ti : TE} {f : TSet} {Qg : St → Hp → Prop} : gSub to ti f v σ H Qg = to σ H fun o H1 => ti σ H1 fun i H2 => f o i v H2 fun H3 => Qg σ H3 := rfl
theorem ixL {p : Addr} {xs : List V} {i : Int} (h : SqL K H p xs) (e : atI xs i = some v) (q : Q v H) : rIxA K (.ref p) (.int i) H Q := .inl ⟨p, xs, i, v, rfl, rfl, h, e, q⟩
theorem ixT {p : Addr} {xs : List V} {i : Int} (h : SqT K H p xs) (e : atI xs i = some v) (q : Q v H) : rIxA K (.ref p) (.int i) H Q := .inr ⟨p, xs, i, v, rfl, rfl, h, e, q⟩
theorem setL {p : Addr} {xs : List V} {i : Int} {j : Nat} {Qh : Hp → Prop} (h : H p = some (.lst xs)) (e : ixN xs.length i = some j) (q : Qh (upd H p (.lst (xs.set j v)))) : rSetL (.ref p) (.int i) v H Qh := ⟨p, xs, i, j, rfl, rfl, h, e, q⟩
theorem lenL {p : Addr} {xs : List V} (h : SqL K H p xs) (q : Q (.int (xs.length : Int)) H) : rLenU K [.ref p] H Q := ⟨p, xs, rfl, .inl h, q⟩
theorem lenT {p : Addr} {xs : List V} (h : SqT K H p xs) (q : Q (.int (xs.length : Int)) H) : rLenU K [.ref p] H Q := ⟨p, xs, rfl, .inr h, q⟩
theorem z_par3 {i j l : Nat} : tPar3 i j l tl D σ H = tl σ H fun vs H1 => ∃ u v w, vs = [u, v, w] ∧ D.nx (((σ.set i (some u)).set j (some v)).set l (some w)) H1 := rfl
theorem z_trip {u v w : V} {p : V → V → V → Prop} : (∃ a b c, [u, v, w] = [a, b, c] ∧ p a b c) = p u v w := propext ⟨fun ⟨_, _, _, e, q⟩ => by cases e; exact q, fun q => ⟨_, _, _, rfl, q⟩⟩
theorem z_rg1 {f : Int → Int → Hp → Prop} : tRg1 te σ H f = te σ H fun x H1 => ∃ n, x = .int n ∧ f 0 n H1 := rfl
theorem z_rg2 {f : Int → Int → Hp → Prop} : tRg2 ta tb σ H f = ta σ H fun x H1 => tb σ H1 fun y H2 => ∃ i j, x = .int i ∧ y = .int j ∧ f i j H2 := rfl
theorem z_ii {i j : Int} {p : Int → Int → Prop} : (∃ a b, V.int i = V.int a ∧ V.int j = V.int b ∧ p a b) = p i j := propext ⟨fun ⟨_, _, e1, e2, q⟩ => by cases e1; cases e2; exact q, fun q => ⟨_, _, rfl, rfl, q⟩⟩
theorem z_i1 {i : Int} {p : Int → Prop} : (∃ a, V.int i = V.int a ∧ p a) = p i := propext ⟨fun ⟨_, e1, q⟩ => by cases e1; exact q, fun q => ⟨_, rfl, q⟩⟩
theorem z_lstrg {f : St → Hp → (Int → Int → Hp → Prop) → Prop} : tLstRg f σ H Q = f σ H fun a b H1 => RgOk a b ∧ ∀ q, H1 q = none → Q (.ref q) (upd H1 q (.lst (rgV a b))) := rfl
theorem z_disp {trs : List (TE × TE)} : tDisp trs σ H Q = ∀ p, H p = none → tPairs trs σ (upd H p (.dK [])) fun ps H2 => H2 p = some (.dK []) ∧ ∃ kvs : List (Key × V), ps = kvs.map (fun kv => (kV kv.1, kv.2)) ∧ kvs.length ≤ 15 ∧ Q (.ref p) (upd H2 p (.dK (mergeK [] kvs))) := rfl
theorem z_tp0 {f : List (V × V) → Hp → Prop} : tPairs [] σ H f = f [] H := rfl
theorem z_tpS {r : List (TE × TE)} {f : List (V × V) → Hp → Prop} : tPairs ((ta, tb) :: r) σ H f = ta σ H fun x H1 => tb σ H1 fun y H2 => tPairs r σ H2 fun ps H3 => f ((x, y) :: ps) H3 := rfl
theorem z_tru : tTru K ta σ H QT = ta σ H fun x H' => ∃ k, TruV K x H' k ∧ QT k H' := rfl
theorem z_din : tDIn ta tb σ H Q = ta σ H fun y H1 => tb σ H1 fun x H2 => ∃ a o, x = V.ref a ∧ DGet H2 a y o ∧ Q (.bl o.isSome) H2 := rfl
theorem z_dget : tDGet ta tb σ H Q = ta σ H fun x H1 => tb σ H1 fun y H2 => ∃ a v, x = V.ref a ∧ DGet H2 a y (some v) ∧ Q v H2 := rfl
theorem z_dput : sDPut ta tb te D σ H = te σ H fun v H1 => ta σ H1 fun x H2 => tb σ H2 fun y H3 => ∃ a H4, x = V.ref a ∧ DPut H3 a y v H4 ∧ D.nx σ H4 := rfl
theorem z_cont : tCont D σ H = D.ct σ H := rfl
theorem z_dnew : tDNewK σ H Q = ∀ p, H p = none → Q (.ref p) (upd H p (.dK [])) := rfl
theorem z_sl {f : V → Option Int → Option Int → Hp → VK → Prop} {ul uh : TO} : tSl f te ul uh σ H Q = te σ H fun x H1 => ul σ H1 fun l H2 => uh σ H2 fun u H3 => f x l u H3 Q := rfl
theorem z_part {f : Option Int → Hp → Prop} : tPart te σ H f = te σ H fun x H1 => ∃ i, x = .int i ∧ f (some i) H1 := rfl
theorem z_nopart {f : Option Int → Hp → Prop} : tNoPart σ H f = f none H := rfl
theorem z_strI {i : Int} : rStrI [.int i] H Q = (i.natAbs.log2 < 1920 ∧ Q (.str (toString i)) H) := propext ⟨fun ⟨_, e, q⟩ => by cases e; exact q, fun q => ⟨_, rfl, q⟩⟩
theorem z_isN : tIsN ta σ H Q = ta σ H fun x H1 => Q (.bl (decide (x = .non))) H1 := rfl
theorem z_notN : tNotN ta σ H Q = ta σ H fun x H1 => Q (.bl (!decide (x = .non))) H1 := rfl
theorem z_dn1 {i : Int} : decide (V.int i = V.non) = false := rfl
theorem z_dn2 {i : Addr} : decide (V.ref i = V.non) = false := rfl
theorem z_dn3 {i : Bool} : decide (V.bl i = V.non) = false := rfl
theorem z_dn4 {i : Str} : decide (V.str i = V.non) = false := rfl
theorem z_dn5 : decide (V.non = V.non) = true := rfl
theorem z_some {a : V} {p : V → Prop} : (∃ x, some (some a) = some (some x) ∧ p x) = p a := propext ⟨fun ⟨_, e, q⟩ => by cases e; exact q, fun q => ⟨_, rfl, q⟩⟩
end
/-! comprehensions: outs i is what the i-th item gives, if anything -/
def OutOf (D : Addr) (nx : Hp → Prop) : Option V → Hp → Prop
  | some y, H4 => ∃ acc, H4 D = some (.lst acc) ∧ acc.length < sizeLine ∧ nx (upd H4 D (.lst (acc ++ [y])))
  | none, H3 => nx H3
def outL (outs : Nat → Option V) (n : Nat) : List V := (List.range n).filterMap outs
theorem outL_succ (outs : Nat → Option V) (n : Nat) : outL outs (n + 1) = outL outs n ++ (outs n).toList := by
  unfold outL
  rw [List.range_succ, List.filterMap_append]
  cases h : outs n <;> simp [h]
theorem outL_len (outs : Nat → Option V) (n : Nat) : (outL outs n).length ≤ n := by
  unfold outL
  exact Nat.le_trans (List.length_filterMap_le _ _) (by simp)
theorem same_mutD {H H' : Hp} {p : Addr} {o : HO} (s : Same H H') (hn : H p = none) : Same H (upd H' p o) := fun b u h => by
  rw [upd_ne (ne_of_none h hn)]; exact s b u h
theorem out_ok {H1 : Hp} {D : Addr} (hD : H1 D = none) (outs : Nat → Option V) {i n : Nat} (hi : i < n) (hn : n < 2 ^ 22) {H' H2 : Hp} (h : Same H1 H' ∧ H' D = some (.lst (outL outs i))) (s : Same H' H2) :
    OutOf D (fun H' => Same H1 H' ∧ H' D = some (.lst (outL outs (i + 1)))) (outs i) H2 := by
  have h2 := s _ _ h.2
  have h3 : Same H1 H2 := h.1.trans s
  cases e : outs i with
  | none =>
    refine ⟨h3, ?_⟩
    rw [outL_succ, e]
    simpa using h2
  | some y =>
    refine ⟨_, h2, Nat.lt_of_lt_of_le (Nat.lt_of_le_of_lt (Nat.le_trans (outL_len outs i) (Nat.le_of_lt hi)) hn) (by decide), same_mutD h3 hD, ?_⟩
    rw [upd_same, outL_succ, e]
    rfl
theorem comp_R {lo : Int} {n : Nat} {g : TG} {tt : TT} {te : TE} {vs : List Nat} {σ : St} {H1 : Hp} {Q : VK} (outs : Nat → Option V) (hn : n < 2 ^ 22)
    (turn : ∀ i H', i < n → Same H1 H' → ∀ Qo : Option V → Hp → Prop, (∀ H2, Same H' H2 → Qo (outs i) H2) → g (.int (lo + i)) (wipe σ vs) H' fun σ2 H2 => wipe σ2 vs = wipe σ vs ∧ tt σ2 H2 fun b H3 => if b = true then te σ2 H3 fun y H4 => Qo (some y) H4 else Qo none H3)
    (fin : ∀ D H', Same H1 H' → H' D = some (.lst (outL outs n)) → Q (.ref D) H') : LcW (Itr lo n) H1 g tt te vs σ Q := fun D hD =>
  lc_range (lo := lo) (n := n) (fun i H' => Same H1 H' ∧ H' D = some (.lst (outL outs i))) ⟨fun b u h => by rw [upd_ne (ne_of_none h hD)]; exact h, upd_same⟩
    (fun i H' hi p => turn i H' hi p.1 (OutOf D fun H' => Same H1 H' ∧ H' D = some (.lst (outL outs (i + 1)))) fun H2 s => out_ok hD outs hi hn p s) (fun H' p => fin D H' p.1 p.2)
theorem comp_T {K : PySem.W.Frag} {a : Addr} {xs : List V} {g : TG} {tt : TT} {te : TE} {vs : List Nat} {σ : St} {H1 : Hp} {Q : VK} (hT : SqT K H1 a xs) (outs : Nat → Option V) (hn : xs.length < 2 ^ 22)
    (turn : ∀ i x H', xs[i]? = some x → Same H1 H' → ∀ Qo : Option V → Hp → Prop, (∀ H2, Same H' H2 → Qo (outs i) H2) → g x (wipe σ vs) H' fun σ2 H2 => wipe σ2 vs = wipe σ vs ∧ tt σ2 H2 fun b H3 => if b = true then te σ2 H3 fun y H4 => Qo (some y) H4 else Qo none H3)
    (fin : ∀ D H', Same H1 H' → H' D = some (.lst (outL outs xs.length)) → Q (.ref D) H') : LcW (Itt K a) H1 g tt te vs σ Q := fun D hD => by
  have hsq : ∀ H', Same H1 H' → SqT K H' a xs := fun H' s => by
    rcases hT with (h | ⟨o, h⟩) | h
    · exact .inl (.inl (s _ _ h))
    · exact .inl (.inr ⟨o, s _ _ h⟩)
    · exact .inr h
  exact lc_tup (K := K) (a := a) (xs := xs) (fun i H' => Same H1 H' ∧ H' D = some (.lst (outL outs i))) ⟨fun b u h => by rw [upd_ne (ne_of_none h hD)]; exact h, upd_same⟩ (fun i H' _ p => hsq H' p.1)
    (fun i x H' hx p => turn i x H' hx p.1 (OutOf D fun H' => Same H1 H' ∧ H' D = some (.lst (outL outs (i + 1)))) fun H2 s => out_ok hD outs (by
      have := List.getElem?_eq_some_iff.mp hx
      exact this.1) hn p s) (fun H' p => fin D H' p.1 p.2)
theorem comp_L {K : PySem.W.Frag} {a : Addr} {xs : List V} {g : TG} {tt : TT} {te : TE} {vs : List Nat} {σ : St} {H1 : Hp} {Q : VK} (hT : SqL K H1 a xs) (outs : Nat → Option V) (hn : xs.length < 2 ^ 22)
    (turn : ∀ i x H', xs[i]? = some x → Same H1 H' → ∀ Qo : Option V → Hp → Prop, (∀ H2, Same H' H2 → Qo (outs i) H2) → g x (wipe σ vs) H' fun σ2 H2 => wipe σ2 vs = wipe σ vs ∧ tt σ2 H2 fun b H3 => if b = true then te σ2 H3 fun y H4 => Qo (some y) H4 else Qo none H3)
    (fin : ∀ D H', Same H1 H' → H' D = some (.lst (outL outs xs.length)) → Q (.ref D) H') : LcW (Itl K a) H1 g tt te vs σ Q := fun D hD =>
  lc_list (K := K) (a := a) (xs := xs) (fun i H' => Same H1 H' ∧ H' D = some (.lst (outL outs i))) ⟨fun b u h => by rw [upd_ne (ne_of_none h hD)]; exact h, upd_same⟩ (fun i H' _ p => p.1.seq hT)
    (fun i x H' hx p => turn i x H' hx p.1 (OutOf D fun H' => Same H1 H' ∧ H' D = some (.lst (outL outs (i + 1)))) fun H2 s => out_ok hD outs (by
      have := List.getElem?_eq_some_iff.mp hx
      exact this.1) hn p s) (fun H' p => fin D H' p.1 p.2)
theorem for_T {K : PySem.W.Frag} {a : Addr} {xs : List V} {g : TG} {tb : TS} {D : Ends} {σ : St} {H : Hp} (Pv : Nat → St → Hp → Prop) (h0 : Pv 0 σ H) (hl : ∀ i σ H, i ≤ xs.length → Pv i σ H → SqT K H a xs)
    (hs : ∀ i x σ H, xs[i]? = some x → Pv i σ H → ∀ N : St → Hp → Prop, (∀ σ' H', Pv (i + 1) σ' H' → N σ' H') → g x σ H fun σ2 H2 => tb { D with nx := N, ct := N, bk := D.nx } σ2 H2) (hd : ∀ σ H, Pv xs.length σ H → D.nx σ H) : ForW (Itt K a) H g tb D σ :=
  for_tup (xs := xs) Pv h0 hl (fun i x σ H hx p => hs i x σ H hx p _ fun _ _ h => h) hd
theorem for_L {K : PySem.W.Frag} {a : Addr} {xs : List V} {g : TG} {tb : TS} {D : Ends} {σ : St} {H : Hp} (Pv : Nat → St → Hp → Prop) (h0 : Pv 0 σ H) (hl : ∀ i σ H, i ≤ xs.length → Pv i σ H → SqL K H a xs)
    (hs : ∀ i x σ H, xs[i]? = some x → Pv i σ H → ∀ N : St → Hp → Prop, (∀ σ' H', Pv (i + 1) σ' H' → N σ' H') → g x σ H fun σ2 H2 => tb { D with nx := N, ct := N, bk := D.nx } σ2 H2) (hd : ∀ σ H, Pv xs.length σ H → D.nx σ H) : ForW (Itl K a) H g tb D σ :=
  for_list (xs := xs) Pv h0 hl (fun i x σ H hx p => hs i x σ H hx p _ fun _ _ h => h) hd
theorem for_R {lo : Int} {n : Nat} {g : TG} {tb : TS} {D : Ends} {σ : St} {H : Hp} (Pv : Nat → St → Hp → Prop) (h0 : Pv 0 σ H)
    (hs : ∀ i σ H, i < n → Pv i σ H → ∀ N : St → Hp → Prop, (∀ σ' H', Pv (i + 1) σ' H' → N σ' H') → g (.int (lo + i)) σ H fun σ2 H2 => tb { D with nx := N, ct := N, bk := D.nx } σ2 H2) (hd : ∀ σ H, Pv n σ H → D.nx σ H) : ForW (Itr lo n) H g tb D σ :=
  for_range (lo := lo) (n := n) Pv h0 (fun i σ H hx p => hs i σ H hx p _ fun _ _ h => h) hd
/-- while: the invariant W by its measure; N is what a turn is to reach -/
theorem while_of {c : TT} {tb : TS} {D : Ends} {σ : St} {H : Hp} (W : Nat → St → Hp → Prop) (m0 : Nat) (h0 : W m0 σ H)
    (hs : ∀ m σ H, W m σ H → ∀ N : St → Hp → Prop, (∀ m' σ' H', m' < m → W m' σ' H' → N σ' H') → (∀ σ' H', N σ' H' → ∃ m', m' < m ∧ W m' σ' H') →
      c σ H fun b H1 => if b = true then ∃ N : St → Hp → Prop, (∀ σ' H', N σ' H' → ∃ m', m' < m ∧ W m' σ' H') ∧ tb { D with nx := N, ct := N, bk := D.nx } σ H1 else D.nx σ H1) : tWhile c tb D σ H :=
  ⟨W, ⟨m0, h0⟩, fun m σ H w => hs m σ H w _ (fun m' _ _ a b => ⟨m', a, b⟩) (fun _ _ h => h)⟩
/-- a comprehension over zip of two tuples of one length -/
theorem comp_ZT {K : PySem.W.Frag} {a b : Addr} {xs ys : List V} {g : TG} {tt : TT} {te : TE} {vs : List Nat} {σ : St} {H1 : Hp} {Q : VK} (hl : xs.length = ys.length) (hA : SqT K H1 a xs) (hB : SqT K H1 b ys) (outs : Nat → Option V) (hn : xs.length < 2 ^ 22)
    (turn : ∀ i x y T H', xs[i]? = some x → ys[i]? = some y → Same H1 H' → H' T = none → ∀ Qo : Option V → Hp → Prop, (∀ H2, Same H' H2 → Qo (outs i) H2) → g (.ref T) (wipe σ vs) (upd H' T (.tup [x, y])) fun σ2 H2 => wipe σ2 vs = wipe σ vs ∧ tt σ2 H2 fun b H3 => if b = true then te σ2 H3 fun y H4 => Qo (some y) H4 else Qo none H3)
    (fin : ∀ D H', Same H1 H' → H' D = some (.lst (outL outs xs.length)) → Q (.ref D) H') : LcW (RZ.ItzT K a b) H1 g tt te vs σ Q := fun D hD => by
  have hsq : ∀ {a xs H'}, SqT K H1 a xs → Same H1 H' → SqT K H' a xs := fun hT s => by
    rcases hT with (h | ⟨o, h⟩) | h
    · exact .inl (.inl (s _ _ h))
    · exact .inl (.inr ⟨o, s _ _ h⟩)
    · exact .inr h
  refine ⟨fun i m H => m = xs.length - i ∧ i ≤ xs.length ∧ Same H1 H ∧ H D = some (.lst (outL outs i)), ⟨xs.length, by simp, Nat.zero_le _, fun b u h => by rw [upd_ne (ne_of_none h hD)]; exact h, upd_same⟩, ?_⟩
  rintro i m H ⟨rfl, hi, s1, hL⟩
  by_cases hlt : i < xs.length
  · have jlt : i < ys.length := by omega
    refine .inr ⟨⟨xs, ys, _, _, hsq hA s1, hsq hB s1, List.getElem?_eq_getElem hlt, List.getElem?_eq_getElem jlt⟩, fun H => Same H1 H ∧ H D = some (.lst (outL outs (i + 1))), fun H' p' => ⟨xs.length - (i + 1), by omega, rfl, hlt, p'⟩, fun v H' y => ?_⟩
    obtain ⟨T, u, v, rfl, hT, rfl, f1, f2⟩ := y
    exact turn i u v T H (f1 xs (hsq hA s1)) (f2 ys (hsq hB s1)) s1 hT (OutOf D fun H' => Same H1 H' ∧ H' D = some (.lst (outL outs (i + 1)))) fun H2 s => out_ok hD outs hlt hn ⟨s1, hL⟩ s
  · obtain rfl : i = xs.length := by omega
    exact .inl ⟨⟨xs, ys, hsq hA s1, hsq hB s1, Or.inl (Nat.le_refl _)⟩, fin D H s1 hL⟩
def Lc2W (J : It) (H1 : Hp) (g : TG) (tt : TT) (wi1 : TI) (g1 : TG) (tt1 : TT) (te : TE) (vs vs1 : List Nat) (σ : St) (Q : VK) : Prop := tLc2 (fun _ _ R => R J H1) g tt wi1 g1 tt1 te vs vs1 σ H1 Q
theorem z_lc2 {wi wi1 : TI} {g g1 : TG} {tt tt1 : TT} {te : TE} {vs vs1 : List Nat} {σ : St} {H : Hp} {Q : VK} : tLc2 wi g tt wi1 g1 tt1 te vs vs1 σ H Q = wi σ H fun J H1 => Lc2W J H1 g tt wi1 g1 tt1 te vs vs1 σ Q := rfl
/-- [f x y for x in xs for y in ys], both lists, f without a trace on the heap -/
theorem comp2_LL {K : PySem.W.Frag} {a b : Addr} {xs ys : List V} {g g1 : TG} {wi1 : TI} {te : TE} {vs vs1 : List Nat} {σ : St} {H1 : Hp} {Q : VK} (f : V → V → V) (σ1 : V → St) (σ2 : V → V → St) (hA : SqL K H1 a xs) (hB : SqL K H1 b ys) (hn : xs.length * ys.length < 2 ^ 22)
    (hg : ∀ x H' (P : St → Hp → Prop), P (σ1 x) H' → g x (wipe σ vs) H' P) (hw : ∀ x, wipe (σ1 x) vs = wipe σ vs)
    (hi : ∀ x H' R, Same H1 H' → R (Itl K b) H' → wi1 (σ1 x) H' R)
    (hg1 : ∀ x y H' (P : St → Hp → Prop), P (σ2 x y) H' → g1 y (wipe (σ1 x) vs1) H' P) (hw1 : ∀ x y, wipe (σ2 x y) vs1 = wipe (σ1 x) vs1)
    (he : ∀ x y H' Qe, x ∈ xs → y ∈ ys → Same H1 H' → Qe (f x y) H' → te (σ2 x y) H' Qe)
    (fin : ∀ D H', Same H1 H' → H' D = some (.lst (xs.flatMap fun x => ys.map (f x))) → Q (.ref D) H') :
    Lc2W (Itl K a) H1 g tYes wi1 g1 tYes te vs vs1 σ Q := fun D hD => by
  have full : ∀ i j : Nat, i < xs.length → j ≤ ys.length → (((xs.take i).flatMap fun x => ys.map (f x)) ++ ((ys.take j).map (f (xs[i]?.getD .non)))).length ≤ xs.length * ys.length := fun i j hi hj => by
    have e : ∀ l : List V, (l.flatMap fun x => ys.map (f x)).length = l.length * ys.length := fun l => by
      induction l with
      | nil => simp
      | cons x t ih => rw [List.flatMap_cons, List.length_append, ih, List.length_map, List.length_cons, Nat.add_mul, Nat.one_mul, Nat.add_comm]
    rw [List.length_append, e, List.length_map, List.length_take, List.length_take, Nat.min_eq_left (by omega), Nat.min_eq_left hj]
    have : (i + 1) * ys.length ≤ xs.length * ys.length := Nat.mul_le_mul_right _ hi
    rw [Nat.add_mul, Nat.one_mul] at this
    omega
  refine ⟨fun i m H => m = xs.length - i ∧ i ≤ xs.length ∧ Same H1 H ∧ H D = some (.lst ((xs.take i).flatMap fun x => ys.map (f x))), ⟨xs.length, by simp, Nat.zero_le _, fun b u h => by rw [upd_ne (ne_of_none h hD)]; exact h, by rw [upd_same]; simp⟩, ?_⟩
  rintro i m H ⟨rfl, hi', s1, hL⟩
  by_cases hlt : i < xs.length
  · have hx := List.getElem?_eq_getElem hlt
    refine .inr ⟨⟨xs, _, s1.seq hA, hx⟩, fun H => Same H1 H ∧ H D = some (.lst ((xs.take (i + 1)).flatMap fun x => ys.map (f x))), fun H' p' => ⟨xs.length - (i + 1), by omega, rfl, hlt, p'⟩, fun v H' y => ?_⟩
    obtain ⟨rfl, f1⟩ := y
    have hv := f1 xs (s1.seq hA)
    have ev : v = xs[i] := by rw [hx] at hv; exact (Option.some.inj hv).symm
    refine hg _ _ _ ⟨hw _, ?_⟩
    show wi1 _ _ _
    refine hi _ _ _ s1 ?_
    refine ⟨fun j k H => k = ys.length - j ∧ j ≤ ys.length ∧ Same H1 H ∧ H D = some (.lst (((xs.take i).flatMap fun x => ys.map (f x)) ++ ((ys.take j).map (f v)))), ⟨ys.length, by simp, Nat.zero_le _, s1, by simpa using hL⟩, ?_⟩
    rintro j k H ⟨rfl, hj, s2, hM⟩
    by_cases hjt : j < ys.length
    · have hy : ys[j]? = some ys[j] := List.getElem?_eq_getElem hjt
      refine .inr ⟨⟨ys, _, s2.seq hB, hy⟩, fun H => Same H1 H ∧ H D = some (.lst (((xs.take i).flatMap fun x => ys.map (f x)) ++ ((ys.take (j + 1)).map (f v)))), fun H' p' => ⟨ys.length - (j + 1), by omega, rfl, hjt, p'⟩, fun u H' y => ?_⟩
      obtain ⟨rfl, f2⟩ := y
      have hu := f2 ys (s2.seq hB)
      refine hg1 _ _ _ _ ⟨hw1 _ _, ?_⟩
      show te _ _ _
      refine he _ _ _ _ (List.mem_of_getElem? hv) (List.mem_of_getElem? hu) s2 ?_
      have fl := full i j hlt hj
      rw [hv] at fl
      refine ⟨_, hM, Nat.lt_of_le_of_lt fl (Nat.lt_of_lt_of_le hn (by decide)), same_mutD s2 hD, ?_⟩
      rw [upd_same, List.take_succ, hu, List.append_assoc]
      simp
    · have e : j = ys.length := by omega
      subst e
      refine .inl ⟨⟨ys, s2.seq hB, Nat.le_refl _⟩, s2, ?_⟩
      rw [hM, List.take_length, List.take_succ, hv]
      simp
  · obtain rfl : i = xs.length := by omega
    exact .inl ⟨⟨xs, s1.seq hA, Nat.le_refl _⟩, fin D H s1 (by rw [hL, List.take_length])⟩
theorem z_dget2 {σ : St} {H : Hp} {Q : VK} {ta tb te : TE} : tDGet2 ta tb te σ H Q = ta σ H fun x H1 => ∃ a, x = .ref a ∧ IsD H1 a ∧ tb σ H1 fun y H2 => te σ H2 fun z H3 => ∃ o, DGet H3 a y o ∧ Q (o.getD z) H3 := rfl
theorem z_izip {K : PySem.W.Frag} {σ : St} {H : Hp} {tl : TA} {R : It → Hp → Prop} : RZ.iZipA K tl σ H R = tl σ H fun vs H1 => ∃ a b xs ys, vs = [.ref a, .ref b] ∧ ((SqL K H1 a xs ∧ SqL K H1 b ys ∧ R (Itz K a b) H1) ∨ (SqT K H1 a xs ∧ SqT K H1 b ys ∧ R (RZ.ItzT K a b) H1)) := rfl
open Sem (wp)
/-! enumerate over a tuple -/
def itO (a : Addr) : Obj := { cls := .type "tuple_iterator", data := .fields #[.ref a, .int 0 0] }
def enO (it : Addr) : Obj := { cls := .type "enumerate", data := .fields #[.none, .bool false, .ref it, rawInt 0, .none, .none] }
theorem en_new (a : Addr) (its : Array Value) : Meets (Builtin.«enumerate.__new__» ⟨[.type "enumerate", .ref a], []⟩) (fun _ R s0 => s0.heap.IsTuple a its ∧ R (.ok (.ret (.ref (s0.heap.push (itO a)).objs.size))) { s0 with heap := (s0.heap.push (itO a)).push (enO s0.heap.objs.size) }) :=
  .of_wp fun prg wd AA RR s0 hs => by
    obtain ⟨hp, gg, dd, tk, os⟩ := s0
    obtain ⟨hT, hs⟩ := hs
    have hsub := PySem.sub_enumerate
    have go : ∀ {A' : Around} {E' : Value → Shared → Prop} {Q' : Value → Shared → Prop}, Q' (.ref hp.objs.size) ⟨hp.push (itO a), gg, dd, tk, os⟩ → wpAny (model prg wd) A' (pyIter (.ref a)) Q' E' ⟨hp, gg, dd, tk, os⟩ := fun q => (begins_tuple a its).iter prg wd _ _ ⟨hp, gg, dd, tk, os⟩ _ hT q
    wp_walk using go
    refine wpAny_stack_any fun stk => wpAny_pure ?_
    split
    · rename_i cc _ _ _ _ _
      cases (cc == Value.type "enumerate") <;> (wp_walk using go; exact ⟨_, rfl, hs⟩)
    · wp_walk using go
      exact ⟨_, rfl, hs⟩
theorem en_call {prg : Program} {wd : World} {AA : Around} {EE : Value → Shared → Prop} {s0 : Shared} {a : Addr} {its : Array Value} {Q : Value → Shared → Prop} (hT : s0.heap.IsTuple a its)
    (h : ∀ h1, IsEnum h1 (s0.heap.objs.size + 1) s0.heap.objs.size 0 .none → h1.IsTupleIter s0.heap.objs.size a 0 → (∀ b ob, s0.heap.get? b = some ob → h1.get? b = some ob) → Q (.ref (s0.heap.objs.size + 1)) { s0 with heap := h1 }) :
    wpAny (model prg wd) AA (call (.type "enumerate") [.ref a]) Q EE s0 := by
  refine callType_new F.called_enumerate (by decide) (F.typeCall_enumerate_1 _) (F.newCall_enumerate_1 _) (fun ob => F.args_object_init_2 ob _) F.entry_enumerate_new (en_new a its) ⟨hT, ?_⟩
  have z1 : (s0.heap.push (itO a)).objs.size = s0.heap.objs.size + 1 := Heap.size_push ..
  have z2 : IsEnum ((s0.heap.push (itO a)).push (enO s0.heap.objs.size)) (s0.heap.objs.size + 1) s0.heap.objs.size 0 .none := by
    have z3 := Heap.get?_push_size (s0.heap.push (itO a)) (o := enO s0.heap.objs.size) rfl
    rw [z1] at z3
    exact z3
  show _ ∧ _
  rw [z1]
  exact ⟨⟨_, z2, rfl⟩, h _ z2 ⟨_, Heap.get?_push_of_some _ (Heap.get?_push_size _ rfl), rfl, rfl⟩ fun b ob y => Heap.get?_push_of_some _ (Heap.get?_push_of_some _ y)⟩
/-- the tuple at a, each item in a new pair with its index -/
def IteT (K : PySem.W.Frag) (a : Addr) : It :=
  ⟨fun i H => ∃ (xs : List V) (x : V), SqT K H a xs ∧ xs[i]? = some x,
   fun i H v H' => ∃ T x, v = .ref T ∧ H T = none ∧ H' = upd H T (.tup [.int (i : Nat), x]) ∧ ∀ xs, SqT K H a xs → xs[i]? = some x,
   fun i H => ∃ xs : List V, SqT K H a xs ∧ xs.length = i⟩
theorem en_apart {h : Heap} {e it a : Addr} {n : Int} {old : Value} {its : Array Value} {i : Nat} (he : IsEnum h e it n old) (hi : h.IsTupleIter it a i) (ha : h.IsTuple a its) : a ≠ it ∧ e ∉ [it, a] ∧ e ≠ it := by
  obtain ⟨o1, g1, c1, _⟩ := hi
  obtain ⟨o2, g2, c2, _⟩ := ha
  have n1 : a ≠ it := fun q => by
    rw [q, g1] at g2
    cases g2
    rw [c1] at c2
    exact absurd c2 (by decide)
  have n2 : e ≠ it := fun q => by
    rw [q] at he
    have := g1.symm.trans he
    cases this
    exact (show (Value.type "enumerate") ≠ Value.type "tuple_iterator" by decide) c1
  have n3 : e ≠ a := fun q => by
    rw [q] at he
    have := g2.symm.trans he
    cases this
    exact (show (Value.type "enumerate") ≠ Value.type "tuple" by decide) c2
  exact ⟨n1, by simp [n2, n3], n2⟩
theorem turn_enT {prg : Program} {wd : World} {K : PySem.W.Frag} {elts : List Expr} {kk : Nat} {tpos : Pos} (a e it : Addr) : Turn prg wd K (.Tuple elts kk tpos) (IteT K a) [e, it] e (fun i h => (∃ old, IsEnum h e it ((i : Nat) : Int) old) ∧ h.IsTupleIter it a i) where
  mem := List.mem_cons_self
  obj := fun i h st b hb => by
    obtain ⟨⟨old, he⟩, o, ho, _, hd⟩ := st
    rcases List.mem_cons.mp hb with z | z
    · subst z
      exact ⟨_, he, fun v q => nomatch q⟩
    · obtain rfl := List.mem_singleton.mp z
      exact ⟨o, ho, fun v q => by rw [hd] at q; cases q⟩
  keep := fun i h h' st k => by
    obtain ⟨⟨old, he⟩, hi⟩ := st
    exact ⟨⟨old, k e List.mem_cons_self _ he⟩, hi.at fun o q => k it (List.mem_cons_of_mem _ List.mem_cons_self) o q⟩
  item := by
    intro X hP hw hK hc i pins s0 σ H EE I hf st hg
    subst hP hw hK
    obtain ⟨⟨old, he⟩, hi⟩ := st
    obtain ⟨xs, x, hq, hx⟩ := hg
    obtain ⟨its, rv, p, _⟩ := I.tuple hq
    have p : s0.heap.IsTuple a its.toArray := p
    obtain ⟨u, hu, relu⟩ := rv.get hx
    obtain ⟨n1, n2, n3⟩ := en_apart he hi p
    have hlt : i < its.toArray.size := by
      have := (List.getElem?_eq_some_iff.mp hu).1
      simpa using this
    have szE : e < s0.heap.objs.size := Heap.lt_size he
    have szI : it < s0.heap.objs.size := by
      obtain ⟨_, q, _⟩ := hi
      exact Heap.lt_size q
    refine wpAny_pyNext_enum_itemD (Draws.tuple (A := X.A.in1) (I.ok.hd hc) it a n1 its.toArray) he ⟨hi, p⟩ hlt n3 n2 fun y h1 tk hy ho hs hT _ hk => ?_
    have ey : y = u := by
      have : its[i]? = some y := by simpa using hy
      rw [hu] at this
      exact (Option.some.inj this).symm
    subst ey
    refine ⟨_, rfl, wpAny_letOwnedTupleGo_enum (s := { s0 with heap := h1, toks := tk + 1 }) ho fun h2 he2 sb => ?_⟩
    have hT2 := (sb.2 _ (Nat.ne_of_gt szE)).trans hT
    have fresh : H s0.heap.objs.size = none := I.hok.fresh (Nat.le_refl _)
    have neu : ObjOk X.prog X.w (upd H s0.heap.objs.size (.tup [.int (i : Nat), x])) h2 s0.heap.objs.size (.tup [.int (i : Nat), x]) := ⟨by show 2 ≤ sizeLine; decide, [.int i tk, y], .cons ⟨_, rfl⟩ (.cons relu .nil), ⟨_, hT2, rfl, _, rfl⟩⟩
    have kept : ∀ b ob, b ∉ [e, it] → s0.heap.get? b = some ob → h2.get? b = some ob := fun b ob hb q => by
      have hb' : b ≠ e ∧ b ≠ it := by simpa using hb
      exact (sb.2 b hb'.1).trans (hk b ob hb'.1 hb'.2 q)
    have J := I.turnedNew (t' := tk + 1) kept hf (Nat.le_refl _) neu
    refine ⟨.ref s0.heap.objs.size, _, J, rfl, ⟨_, x, rfl, fresh, rfl, fun ys hy => by rw [I.tuple_inj hy hq]; exact hx⟩, ⟨⟨y, ?_⟩, hs.1.at fun o q => (sb.2 it (Ne.symm n3)).trans q⟩, fun b hb => ?_⟩
    · rw [show ((i + 1 : Nat) : Int) = (i : Int) + 1 by omega]; exact he2
    · have hlt2 : b < s0.heap.objs.size := by
        rcases List.mem_cons.mp hb with z | z
        · rw [z]; exact szE
        · rw [List.mem_singleton.mp z]; exact szI
      rw [upd_ne (Nat.ne_of_lt hlt2)]
      exact (hf b hb).1
  done := by
    intro X hP hw hK hc i pins s0 σ H EE I hf st hg
    subst hP hw hK
    obtain ⟨⟨old, he⟩, hi⟩ := st
    obtain ⟨xs, hq, hx⟩ := hg
    obtain ⟨its, rv, p, _⟩ := I.tuple hq
    have p : s0.heap.IsTuple a its.toArray := p
    obtain ⟨n1, n2, n3⟩ := en_apart he hi p
    obtain ⟨f0, f1, f2, f3, f4, f5⟩ := hf it (List.mem_cons_of_mem _ List.mem_cons_self)
    have e1 : i = its.toArray.size := by
      have := rv.length
      simp
      omega
    subst e1
    exact wpAny_pyNext_enum_endD (Draws.tuple (A := X.A.in1) (I.ok.hd hc) it a n1 its.toArray) he ⟨hi, p⟩ fun h1 eb => ⟨rfl, I.turned (t' := s0.toks) (fun b ob hb q => eb b ob hb q) f0 f1 f3 f4 f5⟩
  self := fun AA i s0 Q EE st h => by
    obtain ⟨⟨_, he⟩, _⟩ := st
    exact wpAny_pyIter_enum he h
def iEnT (K : PySem.W.Frag) (ta : TA) : TI := fun σ H R => ta σ H fun vs H1 => ∃ a xs, vs = [.ref a] ∧ SqT K H1 a xs ∧ R (IteT K a) H1
theorem pi_enT {X : Cx} {e : Expr} {ta : TA} {p pos tpos : Pos} {elts : List Expr} {kk : Nat} (hg : Gl X "enumerate") (hm : X.mg "enumerate" = none) (ha : PA X [e] ta) (hs : starEach [e] X.env = [(false, eval e X.env)] := by rfl) : PI X (.Tuple elts kk tpos) (.Call (.Name "enumerate" p) [e] [] pos) (iEnT X.K ta) := by
  refine ⟨fun pins s0 σ H R I h => Call_ (ld_blt I hg hm boot_enumerate (PyProof.Rows.callWith_type1 (thn (ha.run pos pins s0 σ H _ I h) fun us s1 ⟨vs, H1, I1, r1, q1⟩ => ?_) hs rfl))⟩
  obtain ⟨a, xs, rfl, hq, q⟩ := q1
  cases r1 with
  | cons r rr =>
    cases rr
    cases r
    obtain ⟨its, rv, p', _⟩ := I1.tuple hq
    refine en_call (show s1.heap.IsTuple a its.toArray from p') fun h1 he hi hk => wpAny_pyIter_enum he ?_
    have J : Inv X pins σ H1 { s1 with heap := h1 } := I1.kept (t' := s1.toks) hk
    refine ⟨s1.heap.objs.size + 1, [s1.heap.objs.size + 1, s1.heap.objs.size], _, _, H1, rfl, J, turn_enT a (s1.heap.objs.size + 1) s1.heap.objs.size, ⟨⟨.none, he⟩, hi⟩, fun b hb => ?_, q⟩
    have above : s1.heap.objs.size ≤ b := (List.mem_cons.mp hb).elim (fun q => by rw [q]; exact Nat.le_succ _) (fun q => by rw [List.mem_singleton.mp q]; exact Nat.le_refl _)
    exact I1.fpOk above (I1.hok.fresh above)
/-- for i, x in enumerate(a tuple) -/
theorem for_enT {K : PySem.W.Frag} {a : Addr} {xs : List V} {g : TG} {tb : TS} {D : Ends} {σ : L2.St} {H : Hp} (Pv : Nat → L2.St → Hp → Prop) (h0 : Pv 0 σ H) (hl : ∀ i σ H, Pv i σ H → SqT K H a xs)
    (hs : ∀ (i : Nat) (x : V) (T : Addr) (σ : L2.St) (H : Hp), xs[i]? = some x → Pv i σ H → H T = none → ∀ N : L2.St → Hp → Prop, (∀ σ' H', Pv (i + 1) σ' H' → N σ' H') → g (.ref T) σ (upd H T (.tup [.int (i : Nat), x])) fun σ2 H2 => tb { D with nx := N, ct := N, bk := D.nx } σ2 H2) (hd : ∀ σ H, Pv xs.length σ H → D.nx σ H) : ForW (IteT K a) H g tb D σ := by
  refine ⟨fun k m σ H => m + k = xs.length ∧ Pv k σ H, ⟨xs.length, by omega, h0⟩, ?_⟩
  rintro i m σ H ⟨em, p⟩
  have q := hl i σ H p
  by_cases hlt : i < xs.length
  · refine .inr ⟨⟨xs, _, q, List.getElem?_eq_getElem hlt⟩, Pv (i + 1), fun σ' H' p' => ⟨xs.length - (i + 1), by omega, by omega, p'⟩, fun v H' y => ?_⟩
    obtain ⟨T, x', rfl, hT, rfl, f1⟩ := y
    exact hs i x' T σ H (f1 xs q) p hT _ fun _ _ h => h
  · obtain rfl : i = xs.length := by omega
    exact .inl ⟨⟨xs, q, rfl⟩, hd σ H p⟩
theorem z_ient {K : PySem.W.Frag} {σ : L2.St} {H : Hp} {tl : TA} {R : It → Hp → Prop} : iEnT K tl σ H R = tl σ H fun vs H1 => ∃ a xs, vs = [.ref a] ∧ SqT K H1 a xs ∧ R (IteT K a) H1 := rfl
/-! a chain of three comparisons -/
def tChain3 (r r' r'' : R2) (ta tb tc td : TE) : TE := fun σ H Q => ta σ H fun x H1 => tb σ H1 fun y H2 => r x y H2 fun z H3 => ∃ k, z = .bl k ∧ (if k = true then tc σ H3 fun u H4 => r' y u H4 fun z2 H5 => ∃ k2, z2 = .bl k2 ∧ (if k2 = true then td σ H5 fun v H6 => r'' u v H6 Q else Q (.bl false) H5) else Q (.bl false) H3)
theorem pt_chain3 {X : Cx} {pos : Pos} {a b c d : Expr} {ta tb tc td : TE} {op op' op'' : CmpOp} {r r' r'' : R2} (ho : OpR X (compareOp op) r) (ho' : OpR X (compareOp op') r') (ho'' : OpR X (compareOp op'') r'') (ha : PE X a ta) (hb : PE X b tb) (hc : PE X c tc) (hd : PE X d td)
    (hm : lastMarks [op, op', op''] [b, c, d] = false := by with_unfolding_all rfl) : PT X (.Compare a [op, op', op''] [b, c, d] pos) (tTest (tChain3 r r' r'' ta tb tc td)) := by
  refine ⟨fun pins s0 σ H Q I h => isTrue_chain (thn (ha.run pins s0 σ H _ I h) fun v s1 ⟨x, H1, I1, r1, q1⟩ => test_link (thn (hb.run pins s1 σ H1 _ I1 q1) fun u s2 ⟨y, H2, I2, r2, q2⟩ => thn (ho pins s2 σ H2 x y v u _ I2 r1 r2 q2) fun dd s3 ⟨z, H3, I3, r3, k, e, q3⟩ => ?_)) hm⟩
  subst e
  cases r3
  refine wpAny_truthy_bool ?_
  cases k with
  | false =>
    obtain ⟨k', e', q'⟩ := q3
    cases e'
    exact ite_ff ⟨H3, I3, q'⟩
  | true =>
    refine ite_tt (test_link (thn (hc.run pins s3 σ H3 _ I3 q3) fun w' s4 ⟨z', H4, I4, r4, q4⟩ => thn (ho' pins s4 σ H4 y z' u w' _ I4 r2 r4 q4) fun d' s5 ⟨z2, H5, I5, r5, k2, e2, q5⟩ => ?_))
    subst e2
    cases r5
    refine wpAny_truthy_bool ?_
    cases k2 with
    | false =>
      obtain ⟨k', e', q'⟩ := q5
      cases e'
      exact ite_ff ⟨H5, I5, q'⟩
    | true =>
      refine ite_tt (test_last (thn (hd.run pins s5 σ H5 _ I5 q5) fun w2 s6 ⟨z3, H6, I6, r6, q6⟩ => thn (ho'' pins s6 σ H6 z' z3 w' w2 _ I6 r4 r6 q6) fun d2 s7 ⟨z4, H7, I7, r7, k3, e3, q7⟩ => ?_))
      subst e3
      cases r7
      exact wpAny_truthy_bool ⟨H7, I7, q7⟩
theorem z_chain3 {K : PySem.W.Frag} {σ : L2.St} {H : Hp} {Q : VK} {r r' r'' : R2} {ta tb tc td : TE} : tChain3 r r' r'' ta tb tc td σ H Q = ta σ H fun x H1 => tb σ H1 fun y H2 => r x y H2 fun z H3 => ∃ k, z = .bl k ∧ (if k = true then tc σ H3 fun u H4 => r' y u H4 fun z2 H5 => ∃ k2, z2 = .bl k2 ∧ (if k2 = true then td σ H5 fun v H6 => r'' u v H6 Q else Q (.bl false) H5) else Q (.bl false) H3) := rfl
/-! x in (a, b, ..): the tuple is forgotten at once -/
def tInT (neg : Bool) (ta : TE) (ts : TA) : TE := fun σ H Q => ta σ H fun x H1 => ts σ H1 fun xs H2 => xs.length ≤ sizeLine ∧ flatV x = true ∧ xs.all flatV = true ∧ Q (.bl (if neg then !inV x xs else inV x xs)) H2
theorem z_inT {neg : Bool} {ta : TE} {ts : TA} {σ : L2.St} {H : Hp} {Q : VK} : tInT neg ta ts σ H Q = ta σ H fun x H1 => ts σ H1 fun xs H2 => xs.length ≤ sizeLine ∧ flatV x = true ∧ xs.all flatV = true ∧ Q (.bl (if neg then !inV x xs else inV x xs)) H2 := rfl
theorem pe_inT {X : Cx} {a : Expr} {ta : TE} {es : List Expr} {ts : TA} {x1} {p pos : Pos} (ha : PE X a ta) (h : PA X es ts) (hm : behindInMarks .In (.Tuple es x1 p) = false) : PE X (.Compare a [.In] [.Tuple es x1 p] pos) (tInT false ta ts) := by
  refine ⟨fun pins s σ H Q I hq => ?_⟩
  refine wpAny_Compare1 (thn (ha.run pins s σ H _ I hq) fun v s1 ⟨x, H1, I1, r1, q1⟩ => wpAny_Tuple_spliced (thn (h.run p pins s1 σ H1 _ I1 q1) fun us s2 ⟨xs, H2, I2, r, z, fx, fs, q⟩ => ⟨by rw [← r.length]; exact z, ?_⟩)) hm
  have I3 : Inv X pins σ H2 { s2 with heap := s2.heap.push { cls := .type "tuple", data := .seq us.toArray } } := I2.kept (t' := s2.toks) fun b u e => Heap.get?_push_of_some _ e
  refine SeqAt.in_tupleAt (eqU x) ⟨_, Heap.get?_push_size _ rfl, rfl, _, rfl⟩ (fun w hw => mem_eqAt r1 fx r fs w (by simpa using hw)) ⟨.bl _, H2, I3, rfl, ?_⟩
  rw [show us.toArray.any (eqU x) = us.any (eqU x) by simp, any_eqU r fs]
  exact q
theorem pe_notInT {X : Cx} {a : Expr} {ta : TE} {es : List Expr} {ts : TA} {x1} {p pos : Pos} (ha : PE X a ta) (h : PA X es ts) (hm : behindInMarks .NotIn (.Tuple es x1 p) = false) : PE X (.Compare a [.NotIn] [.Tuple es x1 p] pos) (tInT true ta ts) := by
  refine ⟨fun pins s σ H Q I hq => ?_⟩
  refine wpAny_Compare1 (thn (ha.run pins s σ H _ I hq) fun v s1 ⟨x, H1, I1, r1, q1⟩ => wpAny_Tuple_spliced (thn (h.run p pins s1 σ H1 _ I1 q1) fun us s2 ⟨xs, H2, I2, r, z, fx, fs, q⟩ => ⟨by rw [← r.length]; exact z, ?_⟩)) hm
  have I3 : Inv X pins σ H2 { s2 with heap := s2.heap.push { cls := .type "tuple", data := .seq us.toArray } } := I2.kept (t' := s2.toks) fun b u e => Heap.get?_push_of_some _ e
  refine SeqAt.notIn_tupleAt (eqU x) ⟨_, Heap.get?_push_size _ rfl, rfl, _, rfl⟩ (fun w hw => mem_eqAt r1 fx r fs w (by simpa using hw)) ⟨.bl _, H2, I3, rfl, ?_⟩
  rw [show us.toArray.any (eqU x) = us.any (eqU x) by simp, any_eqU r fs]
  exact q
end L2.Z

namespace L2.Z
open PySem PySem.Spec PyProof.Rows
local macro_rules | `(tactic| walk_at "z") => `(tactic| (try simp only [↓z_var0, ↓z_varS, ↓z_C, ↓z_op, ↓z_un, ↓z_I0, ↓z_I, ↓z_U, ↓z_eqI, ↓z_neI, ↓z_bl, ↓z_test, ↓z_B, ↓z_and, ↓z_or, ↓z_not, ↓z_andV, ↓z_orV, ↓z_notV, ↓z_if, ↓z_ifS, ↓z_seq, ↓z_next, ↓z_ret, ↓z_retN, ↓z_asg, ↓z_gname, ↓z_drop, ↓z_nil, ↓z_cons, ↓z_call, ↓z_CB, ↓z_par, ↓z_pair, ↓z_aug0, ↓z_ipI, ↓z_abs, ↓z_max, ↓z_min, ↓z_int, ↓z_intB, ↓z_gcd, ↓z_tup, ↓z_lst, ↓z_chain, z_some, z_bl, z_pair, decide_eq_true_eq, Bool.not_eq_true', decide_eq_false_iff_not, List.set_cons_zero, List.set_cons_succ, List.getElem?_cons_zero, List.getElem?_cons_succ, Bool.false_eq_true, Bool.true_eq_false, if_true, if_false, ↓reduceIte, ↓z_isN, ↓z_gtup, ↓z_gcons, ↓z_gnil, ↓z_yes, ↓z_wipe0, ↓z_wipeS, ↓z_itup, ↓z_ilist, ↓z_irng1, ↓z_irng2, ↓z_lc, ↓z_lc2, ↓z_izip, ↓z_ient, ↓z_chain3, ↓z_inT, ↓z_par3, z_trip, ↓z_rg1, ↓z_rg2, z_ii, z_i1, ↓z_lstrg, ↓z_disp, ↓z_tp0, ↓z_tpS, ↓z_dnew, ↓z_din, ↓z_tru, ↓z_dget, ↓z_dget2, ↓z_dput, ↓z_cont, ↓z_sl, ↓z_part, ↓z_nopart, ↓z_strI, ↓z_gsub, ↓z_for, true_and, and_true, decide_true, decide_false, not_true_eq_false, not_false_eq_true, ↓z_bm, ↓z_bm0, ↓z_notN, z_dn1, z_dn2, z_dn3, z_dn4, z_dn5, Nat.zero_add, Nat.reduceAdd, Nat.reduceSub, List.replicate_succ, List.replicate_zero, start, List.map_cons, List.map_nil, List.length_cons, List.length_nil, List.cons_append, List.nil_append]))
def top (i : Nat) : Stmt := PySem.Challenge.pw_zeroorone_k04_whole_primes_and_their_pap.main.body.getD i (.Pass ⟨0, 0, 0, 0⟩)
abbrev s_is_int : Stmt := top 3
abbrev s_has_no_parts : Stmt := top 4
abbrev s_power_modulo : Stmt := top 5
abbrev s_least_divisor : Stmt := top 7
abbrev s_prime_powers : Stmt := top 13
abbrev s_check_between : Stmt := top 8
abbrev s_least_maker_by : Stmt := top 14
abbrev s_is_prime : Stmt := top 11
abbrev s_next_prime : Stmt := top 12
abbrev s_prime_paper : Stmt := top 15
abbrev s_prime_answer : Stmt := top 16
abbrev s__law_dice : Stmt := top 18
abbrev s__law_roll : Stmt := top 19
abbrev s__law_pr_least : Stmt := top 21
abbrev s__law_pr_power : Stmt := top 23
abbrev s__law_pr_times : Stmt := top 24
abbrev s__law_pr_is_whole : Stmt := top 25
abbrev s__law_pick : Stmt := top 20
abbrev s__law_pr_is : Stmt := top 22
abbrev s__law_pr_is_row : Stmt := top 26
abbrev s__law_is_split : Stmt := top 30
abbrev s__law_pr_is_paper : Stmt := top 27
abbrev s__law_pr_drawn : Stmt := top 28
abbrev s__law_right : Stmt := top 29
abbrev s_law : Stmt := top 31
structure Tx (K : PySem.W.Frag) (mg : Str → Option Value) : Prop where
  f_is_int : ∃ fd, FunD K "is_int" "is_int" (defArgs s_is_int) (defBody s_is_int) (defScope s_is_int) [] [] (He.ga K "is_int") fd
  g_is_int : mg "is_int" = some (.ref (He.ga K "is_int"))
  f_has_no_parts : ∃ fd, FunD K "has_no_parts" "has_no_parts" (defArgs s_has_no_parts) (defBody s_has_no_parts) (defScope s_has_no_parts) [] [] (He.ga K "has_no_parts") fd
  g_has_no_parts : mg "has_no_parts" = some (.ref (He.ga K "has_no_parts"))
  f_power_modulo : ∃ fd, FunD K "power_modulo" "power_modulo" (defArgs s_power_modulo) (defBody s_power_modulo) (defScope s_power_modulo) [] [] (He.ga K "power_modulo") fd
  g_power_modulo : mg "power_modulo" = some (.ref (He.ga K "power_modulo"))
  f_least_divisor : ∃ fd, FunD K "least_divisor" "least_divisor" (defArgs s_least_divisor) (defBody s_least_divisor) (defScope s_least_divisor) [] [] (He.ga K "least_divisor") fd
  g_least_divisor : mg "least_divisor" = some (.ref (He.ga K "least_divisor"))
  f_prime_powers : ∃ fd, FunD K "prime_powers" "prime_powers" (defArgs s_prime_powers) (defBody s_prime_powers) (defScope s_prime_powers) [] [] (He.ga K "prime_powers") fd
  g_prime_powers : mg "prime_powers" = some (.ref (He.ga K "prime_powers"))
  f_check_between : ∃ fd, FunD K "check_between" "check_between" (defArgs s_check_between) (defBody s_check_between) (defScope s_check_between) [] [] (He.ga K "check_between") fd
  g_check_between : mg "check_between" = some (.ref (He.ga K "check_between"))
  f_least_maker_by : ∃ fd, FunD K "least_maker_by" "least_maker_by" (defArgs s_least_maker_by) (defBody s_least_maker_by) (defScope s_least_maker_by) [] [] (He.ga K "least_maker_by") fd
  g_least_maker_by : mg "least_maker_by" = some (.ref (He.ga K "least_maker_by"))
  f_is_prime : ∃ fd, FunD K "is_prime" "is_prime" (defArgs s_is_prime) (defBody s_is_prime) (defScope s_is_prime) [] [] (He.ga K "is_prime") fd
  g_is_prime : mg "is_prime" = some (.ref (He.ga K "is_prime"))
  f_next_prime : ∃ fd, FunD K "next_prime" "next_prime" (defArgs s_next_prime) (defBody s_next_prime) (defScope s_next_prime) [] [] (He.ga K "next_prime") fd
  g_next_prime : mg "next_prime" = some (.ref (He.ga K "next_prime"))
  f_prime_paper : ∃ fd, FunD K "prime_paper" "prime_paper" (defArgs s_prime_paper) (defBody s_prime_paper) (defScope s_prime_paper) [] [] (He.ga K "prime_paper") fd
  g_prime_paper : mg "prime_paper" = some (.ref (He.ga K "prime_paper"))
  f_prime_answer : ∃ fd, FunD K "prime_answer" "prime_answer" (defArgs s_prime_answer) (defBody s_prime_answer) (defScope s_prime_answer) [] [] (He.ga K "prime_answer") fd
  g_prime_answer : mg "prime_answer" = some (.ref (He.ga K "prime_answer"))
  f__law_dice : ∃ fd, FunD K "_law_dice" "_law_dice" (defArgs s__law_dice) (defBody s__law_dice) (defScope s__law_dice) [] [] (He.ga K "_law_dice") fd
  g__law_dice : mg "_law_dice" = some (.ref (He.ga K "_law_dice"))
  f__law_roll : ∃ fd, FunD K "_law_roll" "_law_roll" (defArgs s__law_roll) (defBody s__law_roll) (defScope s__law_roll) [] [] (He.ga K "_law_roll") fd
  g__law_roll : mg "_law_roll" = some (.ref (He.ga K "_law_roll"))
  f__law_pr_least : ∃ fd, FunD K "_law_pr_least" "_law_pr_least" (defArgs s__law_pr_least) (defBody s__law_pr_least) (defScope s__law_pr_least) [] [] (He.ga K "_law_pr_least") fd
  g__law_pr_least : mg "_law_pr_least" = some (.ref (He.ga K "_law_pr_least"))
  f__law_pr_power : ∃ fd, FunD K "_law_pr_power" "_law_pr_power" (defArgs s__law_pr_power) (defBody s__law_pr_power) (defScope s__law_pr_power) [] [] (He.ga K "_law_pr_power") fd
  g__law_pr_power : mg "_law_pr_power" = some (.ref (He.ga K "_law_pr_power"))
  f__law_pr_times : ∃ fd, FunD K "_law_pr_times" "_law_pr_times" (defArgs s__law_pr_times) (defBody s__law_pr_times) (defScope s__law_pr_times) [] [] (He.ga K "_law_pr_times") fd
  g__law_pr_times : mg "_law_pr_times" = some (.ref (He.ga K "_law_pr_times"))
  f__law_pr_is_whole : ∃ fd, FunD K "_law_pr_is_whole" "_law_pr_is_whole" (defArgs s__law_pr_is_whole) (defBody s__law_pr_is_whole) (defScope s__law_pr_is_whole) [] [] (He.ga K "_law_pr_is_whole") fd
  g__law_pr_is_whole : mg "_law_pr_is_whole" = some (.ref (He.ga K "_law_pr_is_whole"))
  f__law_pick : ∃ fd, FunD K "_law_pick" "_law_pick" (defArgs s__law_pick) (defBody s__law_pick) (defScope s__law_pick) [] [] (He.ga K "_law_pick") fd
  g__law_pick : mg "_law_pick" = some (.ref (He.ga K "_law_pick"))
  f__law_pr_is : ∃ fd, FunD K "_law_pr_is" "_law_pr_is" (defArgs s__law_pr_is) (defBody s__law_pr_is) (defScope s__law_pr_is) [] [] (He.ga K "_law_pr_is") fd
  g__law_pr_is : mg "_law_pr_is" = some (.ref (He.ga K "_law_pr_is"))
  f__law_pr_is_row : ∃ fd, FunD K "_law_pr_is_row" "_law_pr_is_row" (defArgs s__law_pr_is_row) (defBody s__law_pr_is_row) (defScope s__law_pr_is_row) [] [] (He.ga K "_law_pr_is_row") fd
  g__law_pr_is_row : mg "_law_pr_is_row" = some (.ref (He.ga K "_law_pr_is_row"))
  f__law_is_split : ∃ fd, FunD K "_law_is_split" "_law_is_split" (defArgs s__law_is_split) (defBody s__law_is_split) (defScope s__law_is_split) [] [] (He.ga K "_law_is_split") fd
  g__law_is_split : mg "_law_is_split" = some (.ref (He.ga K "_law_is_split"))
  f__law_pr_is_paper : ∃ fd, FunD K "_law_pr_is_paper" "_law_pr_is_paper" (defArgs s__law_pr_is_paper) (defBody s__law_pr_is_paper) (defScope s__law_pr_is_paper) [] [] (He.ga K "_law_pr_is_paper") fd
  g__law_pr_is_paper : mg "_law_pr_is_paper" = some (.ref (He.ga K "_law_pr_is_paper"))
  f__law_pr_drawn : ∃ fd, FunD K "_law_pr_drawn" "_law_pr_drawn" (defArgs s__law_pr_drawn) (defBody s__law_pr_drawn) (defScope s__law_pr_drawn) [] [] (He.ga K "_law_pr_drawn") fd
  g__law_pr_drawn : mg "_law_pr_drawn" = some (.ref (He.ga K "_law_pr_drawn"))
  f__law_right : ∃ fd, FunD K "_law_right" "_law_right" (defArgs s__law_right) (defBody s__law_right) (defScope s__law_right) [] [] (He.ga K "_law_right") fd
  g__law_right : mg "_law_right" = some (.ref (He.ga K "_law_right"))
  f_law : ∃ fd, FunD K "law" "law" (defArgs s_law) (defBody s_law) (defScope s_law) [] [] (He.ga K "law") fd
  g_law : mg "law" = some (.ref (He.ga K "law"))
  c_MOST : ∃ t, mg "MOST" = some (.int 100000000 t)
  n_abs : mg "abs" = none
  n_bool : mg "bool" = none
  n_int : mg "int" = none
  n_isinstance : mg "isinstance" = none
  n_len : mg "len" = none
  n_max : mg "max" = none
  n_min : mg "min" = none
  n_range : mg "range" = none
  n_repr : mg "repr" = none
  n_sorted : mg "sorted" = none
  n_tuple : mg "tuple" = none
/-- all that was tracked but at d is as it was -/
def Keep (d : Addr) (H H' : Hp) : Prop := ∀ b o, b ≠ d → H b = some o → H' b = some o
theorem isi_int {K : PySem.W.Frag} {i : Int} {H : Hp} {Q : VK} (q : Q (.bl true) H) : rIsi K [.int i, .ty "int"] H Q :=
  ⟨_, _, _, _, _, rfl, .ty "int", .base (.int i), kit_ty (by decide +kernel), q⟩
theorem isi_intB {K : PySem.W.Frag} {i : Int} {H : Hp} {Q : VK} (q : Q (.bl false) H) : rIsi K [.int i, .ty "bool"] H Q :=
  ⟨_, _, _, _, _, rfl, .ty "bool", .base (.int i), kit_ty (by decide +kernel), q⟩
theorem mulS {i j : Int} (h : -(2 ^ 64) < i ∧ i < 2 ^ 64) : CMul i j ∨ CMulW i j := .inl (.inl h)
theorem mulR {i j : Int} (h : -(2 ^ 64) < j ∧ j < 2 ^ 64) : CMul i j ∨ CMulW i j := .inl (.inr h)
theorem divS {i j : Int} (h : 0 < j) (h2 : j < 2 ^ 64) : CDivW i j := wide_div (b := 64) h (by omega) (by decide) (by decide)
/-- d is the least divisor of n from 2 on -/
def Least (d n : Int) : Prop := 2 ≤ d ∧ d ∣ n ∧ ∀ k, 2 ≤ k → k < d → ¬ k ∣ n
theorem emod_small {a m : Int} (h0 : 0 ≤ a) (h1 : a < m) : a % m = a := Int.emod_eq_of_lt h0 h1
theorem emod_emod' (a m : Int) : a % m % m = a % m := Int.emod_emod_of_dvd a (Int.dvd_refl m)
theorem pow_emod (x m : Int) (k : Nat) : (x % m) ^ k % m = x ^ k % m := by
  induction k with
  | zero => rw [Int.pow_zero, Int.pow_zero]
  | succ k ih => rw [Int.pow_succ, Int.pow_succ, Int.mul_emod, ih, emod_emod', ← Int.mul_emod]
theorem pow_two_mul (b : Int) (e : Nat) : b ^ (2 * e) = (b * b) ^ e := by
  rw [Int.pow_mul, Int.pow_succ, Int.pow_succ, Int.pow_zero, Int.one_mul]
/-! heaps -/
theorem same_new {H H' : Hp} {p : Addr} {o : HO} (s : Same H H') (hn : H' p = none) : Same H (upd H' p o) := fun b u h => by
  rw [upd_ne (ne_of_none (s b u h) hn)]; exact s b u h
theorem same_mut {H H' : Hp} {p : Addr} {o : HO} (s : Same H H') (hn : H p = none) : Same H (upd H' p o) := fun b u h => by
  rw [upd_ne (ne_of_none h hn)]; exact s b u h
theorem same_upd {H : Hp} {p : Addr} {o : HO} (hn : H p = none) : Same H (upd H p o) := same_new (Same.refl H) hn
theorem sqT_of {K : PySem.W.Frag} {H : Hp} {a : Addr} {xs : List V} (h : H a = some (.tup xs)) : SqT K H a xs := .inl (.inl h)
theorem sqL_of {K : PySem.W.Frag} {H : Hp} {a : Addr} {xs : List V} (h : H a = some (.lst xs)) : SqL K H a xs := .inl (.inl h)
/-- references to pairs of numbers -/
def PR (H : Hp) : List V → List (Nat × Nat) → Prop := Paired fun v q => ∃ t, v = V.ref t ∧ H t = some (.tup [.int q.1, .int q.2])
theorem paired_map {α β : Type} {F G : α → β → Prop} : ∀ {l₁ : List α} {l₂ : List β}, Paired F l₁ l₂ → (∀ a b, F a b → G a b) → Paired G l₁ l₂
  | _, _, .nil, _ => .nil
  | _, _, .cons r t, f => .cons (f _ _ r) (paired_map t f)
theorem PR.mono {H H' : Hp} {xs : List V} {ps : List (Nat × Nat)} (r : PR H xs ps) (h : ∀ t ys, H t = some (.tup ys) → H' t = some (.tup ys)) : PR H' xs ps :=
  paired_map r fun _ _ ⟨t, e, q⟩ => ⟨t, e, h t _ q⟩
theorem PR.same {H H' : Hp} {xs : List V} {ps : List (Nat × Nat)} (r : PR H xs ps) (h : Same H H') : PR H' xs ps := r.mono fun t ys q => h t _ q
theorem PR.len {H : Hp} {xs : List V} {ps : List (Nat × Nat)} (r : PR H xs ps) : xs.length = ps.length := Paired.length r
theorem PR.get {H : Hp} : ∀ {xs : List V} {ps : List (Nat × Nat)}, PR H xs ps → ∀ {i : Nat} {x : V}, xs[i]? = some x → ∃ q t, ps[i]? = some q ∧ x = V.ref t ∧ H t = some (.tup [.int (q.1 : Int), .int (q.2 : Int)])
  | _, _, .nil, i, x, e => by simp at e
  | _, _, .cons (b := b) ⟨t, e1, h⟩ r, 0, x, e => by
    simp at e
    subst e
    exact ⟨b, t, rfl, e1, h⟩
  | _, _, .cons _ r, i + 1, x, e => by
    obtain ⟨q, t, h1, h2, h3⟩ := PR.get r (i := i) (x := x) (by simpa using e)
    exact ⟨q, t, by simpa using h1, h2, h3⟩
def PrimeI (n : Int) : Prop := 2 ≤ n ∧ ∀ k, 2 ≤ k → k < n → ¬ k ∣ n

theorem least_two {n : Int} (h : n % 2 = 0) : Least 2 n := ⟨by omega, by omega, fun k h1 h2 => by omega⟩
theorem least_self {n d : Int} (hn : 2 ≤ n) (h : ∀ k, 2 ≤ k → k < d → ¬ k ∣ n) (hd : n < d * d) (h0 : 2 ≤ d) : Least n n := by
  refine ⟨hn, Int.dvd_refl n, fun k h1 h2 h3 => ?_⟩
  obtain ⟨q, rfl⟩ := h3
  have hq : 2 ≤ q := by
    by_cases hq0 : q ≤ 0
    · have := Int.mul_le_mul_of_nonneg_left hq0 (show 0 ≤ k by omega)
      omega
    · by_cases hq1 : q = 1
      · subst hq1; omega
      · omega
  by_cases hk : k < d
  · exact h k h1 hk (Int.dvd_mul_right k q)
  · by_cases hqd : q < d
    · exact h q hq hqd (Int.dvd_mul_left k q)
    · have := Int.mul_le_mul (show d ≤ k by omega) (show d ≤ q by omega) (by omega) (by omega)
      omega
theorem in_twothree {n : Int} : inV (.int n) [.int 2, .int 3] = decide (n = 2 ∨ n = 3) := by
  rw [Bool.eq_iff_iff, decide_eq_true_eq]
  simp [inV, eqV]
  omega
theorem prime_two : PrimeI 2 := ⟨by decide, fun k h1 h2 => by omega⟩
theorem prime_three : PrimeI 3 := ⟨by decide, fun k h1 h2 => by
  obtain rfl : k = 2 := by omega
  decide⟩
def PrimeN (p : Nat) : Prop := 2 ≤ p ∧ ∀ k, 2 ≤ k → k < p → ¬ k ∣ p
def stripN : Nat → Nat → Nat → Nat → Nat × Nat
  | 0, _, l, o => (l, o)
  | f + 1, d, l, o => if l % d = 0 then stripN f d (l / d) (o + 1) else (l, o)
def endN (l : Nat) (acc : List (Nat × Nat)) : List (Nat × Nat) := if 1 < l then acc ++ [(l, 1)] else acc
def ppL : Nat → Nat → Nat → List (Nat × Nat) → List (Nat × Nat)
  | 0, _, l, acc => endN l acc
  | f + 1, d, l, acc => if d * d ≤ l then ppL f (if d = 2 then d + 1 else d + 2) (stripN l d l 0).1 (if 0 < (stripN l d l 0).2 then acc ++ [(d, (stripN l d l 0).2)] else acc) else endN l acc
def ppN (n : Nat) : List (Nat × Nat) := ppL n 2 n []
def cuN (ps : List (Nat × Nat)) : Nat := ps.foldl (fun m q => m * (q.1 - 1) * q.1 ^ (q.2 - 1)) 1
theorem stripN_mul : ∀ (f d l o : Nat), (stripN f d l o).1 * d ^ (stripN f d l o).2 = l * d ^ o
  | 0, _, _, _ => rfl
  | f + 1, d, l, o => by
    unfold stripN
    split
    · rename_i h
      rw [stripN_mul f d (l / d) (o + 1), Nat.pow_succ, ← Nat.mul_assoc, Nat.mul_right_comm, Nat.div_mul_cancel (Nat.dvd_of_mod_eq_zero h)]
    · rfl
theorem stripN_end : ∀ (f d l o : Nat), 2 ≤ d → 1 ≤ l → l ≤ f → ¬ d ∣ (stripN f d l o).1 ∧ 1 ≤ (stripN f d l o).1 ∧ (stripN f d l o).1 ≤ l
  | 0, _, l, _, _, h1, h2 => by omega
  | f + 1, d, l, o, hd, h1, h2 => by
    unfold stripN
    split
    · rename_i h
      have hdl : d ≤ l := Nat.le_of_dvd h1 (Nat.dvd_of_mod_eq_zero h)
      have h3 : l / d < l := Nat.div_lt_self h1 hd
      have h4 : 1 ≤ l / d := Nat.div_pos hdl (by omega)
      obtain ⟨a, b, c⟩ := stripN_end f d (l / d) (o + 1) hd h4 (by omega)
      exact ⟨a, b, by omega⟩
    · rename_i h
      exact ⟨fun x => h (Nat.mod_eq_zero_of_dvd x), h1, Nat.le_refl l⟩
/-! ### primes -/
theorem PrimeN.cop {p k : Nat} (hp : PrimeN p) (h : ¬ p ∣ k) : Nat.Coprime p k := by
  unfold Nat.Coprime
  have h1 : Nat.gcd p k ∣ p := Nat.gcd_dvd_left p k
  have h2 : Nat.gcd p k ≤ p := Nat.le_of_dvd (by have := hp.1; omega) h1
  have h3 : 0 < Nat.gcd p k := Nat.gcd_pos_of_pos_left k (by have := hp.1; omega)
  refine Classical.byContradiction fun e => ?_
  by_cases e2 : Nat.gcd p k = p
  · exact h (e2 ▸ Nat.gcd_dvd_right p k)
  · exact hp.2 _ (by omega) (by omega) h1
theorem PrimeN.dvd_mul {p a b : Nat} (hp : PrimeN p) (h : p ∣ a * b) : p ∣ a ∨ p ∣ b := by
  by_cases e : p ∣ a
  · exact .inl e
  · exact .inr (Nat.Coprime.dvd_of_dvd_mul_left (hp.cop e) h)
theorem PrimeN.dvd_pow {p a : Nat} (hp : PrimeN p) : ∀ {e : Nat}, p ∣ a ^ e → p ∣ a
  | 0, h => by
    have := Nat.le_of_dvd (by simp) h
    have := hp.1
    simp at *
    omega
  | e + 1, h => by
    rw [Nat.pow_succ] at h
    rcases hp.dvd_mul h with h | h
    · exact hp.dvd_pow h
    · exact h
theorem PrimeN.eq {p q : Nat} (hp : PrimeN p) (hq : PrimeN q) (h : p ∣ q) : p = q := by
  refine Classical.byContradiction fun e => hq.2 p hp.1 ?_ h
  have := Nat.le_of_dvd (by have := hq.1; omega) h
  omega
/-- each number above 1 has a prime divisor -/
theorem prime_dvd : ∀ (n : Nat), 2 ≤ n → ∃ p, PrimeN p ∧ p ∣ n := by
  intro n
  induction n using Nat.strongRecOn with
  | ind n ih =>
    intro hn
    by_cases h : PrimeN n
    · exact ⟨n, h, Nat.dvd_refl n⟩
    · have : ∃ k, 2 ≤ k ∧ k < n ∧ k ∣ n := Classical.byContradiction fun e => h ⟨hn, fun k h1 h2 h3 => e ⟨k, h1, h2, h3⟩⟩
      obtain ⟨k, h1, h2, h3⟩ := this
      obtain ⟨p, hp, hd⟩ := ih k h2 h1
      exact ⟨p, hp, Nat.dvd_trans hd h3⟩
def prodN (ps : List (Nat × Nat)) : Nat := ps.foldl (fun m q => m * q.1 ^ q.2) 1
theorem prodN_foldl (ps : List (Nat × Nat)) : ∀ a, ps.foldl (fun m q => m * q.1 ^ q.2) a = a * prodN ps := by
  unfold prodN
  induction ps with
  | nil => intro a; simp
  | cons x r ih => intro a; rw [List.foldl_cons, List.foldl_cons, ih, ih (1 * _), Nat.one_mul, Nat.mul_assoc]
theorem prodN_cons (x : Nat × Nat) (r : List (Nat × Nat)) : prodN (x :: r) = x.1 ^ x.2 * prodN r := by
  show r.foldl _ (1 * x.1 ^ x.2) = _
  rw [prodN_foldl, Nat.one_mul]
theorem prodN_snoc (r : List (Nat × Nat)) (x : Nat × Nat) : prodN (r ++ [x]) = prodN r * x.1 ^ x.2 := by
  unfold prodN
  rw [List.foldl_append]
  rfl
theorem prime_prod {p : Nat} (hp : PrimeN p) : ∀ {ps : List (Nat × Nat)}, (∀ q ∈ ps, PrimeN q.1) → p ∣ prodN ps → ∃ q ∈ ps, q.1 = p
  | [], _, h => by
    have := Nat.le_of_dvd (by decide) h
    have := hp.1
    simp [prodN] at *
    omega
  | x :: r, hq, h => by
    rw [prodN_cons] at h
    rcases hp.dvd_mul h with h | h
    · exact ⟨x, List.mem_cons_self, (hp.eq (hq x List.mem_cons_self) (hp.dvd_pow h)).symm⟩
    · obtain ⟨q, h1, h2⟩ := prime_prod hp (fun q h => hq q (List.mem_cons_of_mem _ h)) h
      exact ⟨q, List.mem_cons_of_mem _ h1, h2⟩
/-- the row of prime parts of n -/
structure Good (ps : List (Nat × Nat)) (n : Nat) : Prop where
  prod : prodN ps = n
  pr : ∀ q ∈ ps, PrimeN q.1 ∧ 1 ≤ q.2
  asc : ps.Pairwise fun a b => a.1 < b.1
theorem Good.all {ps : List (Nat × Nat)} {n p : Nat} (g : Good ps n) (hp : PrimeN p) (h : p ∣ n) : ∃ q ∈ ps, q.1 = p :=
  prime_prod hp (fun q hq => (g.pr q hq).1) (by rw [g.prod]; exact h)
theorem exact_of : ∀ {ps : List (Nat × Nat)}, (∀ q ∈ ps, PrimeN q.1 ∧ 1 ≤ q.2) → (ps.Pairwise fun a b => a.1 < b.1) → ∀ q ∈ ps, ∃ r, prodN ps = q.1 ^ q.2 * r ∧ ¬ q.1 ∣ r
  | [], _, _, q, h => by cases h
  | x :: t, hp, ha, q, h => by
    obtain ⟨h1, h2⟩ := List.pairwise_cons.mp ha
    rcases List.mem_cons.mp h with e | h
    · subst e
      refine ⟨prodN t, prodN_cons q t, fun hd => ?_⟩
      obtain ⟨y, hy, e⟩ := prime_prod (hp q List.mem_cons_self).1 (fun z hz => (hp z (List.mem_cons_of_mem _ hz)).1) hd
      have := h1 y hy
      omega
    · obtain ⟨r, e, hr⟩ := exact_of (fun z hz => hp z (List.mem_cons_of_mem _ hz)) h2 q h
      refine ⟨x.1 ^ x.2 * r, ?_, fun hd => ?_⟩
      · rw [prodN_cons, e, Nat.mul_left_comm]
      · have pq := (hp q (List.mem_cons_of_mem _ h)).1
        rcases pq.dvd_mul hd with hd | hd
        · have e2 := pq.eq (hp x List.mem_cons_self).1 (pq.dvd_pow hd)
          have := h1 q h
          omega
        · exact hr hd
theorem Good.exact {ps : List (Nat × Nat)} {n : Nat} (g : Good ps n) {q : Nat × Nat} (h : q ∈ ps) : ∃ r, n = q.1 ^ q.2 * r ∧ ¬ q.1 ∣ r := by
  obtain ⟨r, e, hr⟩ := exact_of g.pr g.asc q h
  exact ⟨r, by rw [← g.prod, e], hr⟩
theorem prime_end {d l : Nat} (h1 : 1 < l) (h2 : l < d * d) (h3 : ∀ k, 2 ≤ k → k < d → ¬ k ∣ l) : PrimeN l ∧ d ≤ l := by
  refine ⟨⟨h1, fun k hk hkl hd => ?_⟩, ?_⟩
  · obtain ⟨q, rfl⟩ := hd
    have hq : 2 ≤ q := by
      rcases q with _ | _ | q
      · simp at h1
      · simp at hkl
      · omega
    by_cases e : k < d
    · exact h3 k hk e (Nat.dvd_mul_right k q)
    · by_cases e2 : q < d
      · exact h3 q hq e2 (Nat.dvd_mul_left q k)
      · have := Nat.mul_le_mul (show d ≤ k by omega) (show d ≤ q by omega)
        omega
  · refine Classical.byContradiction fun e => h3 l h1 (by omega) (Nat.dvd_refl l)
theorem endN_good {d l n : Nat} {acc : List (Nat × Nat)} (hl : 1 ≤ l) (h2 : l < d * d) (h3 : ∀ k, 2 ≤ k → k < d → ¬ k ∣ l) (hp : prodN acc * l = n) (ha : ∀ q ∈ acc, PrimeN q.1 ∧ 1 ≤ q.2 ∧ q.1 < d) (hs : acc.Pairwise fun a b => a.1 < b.1) : Good (endN l acc) n := by
  unfold endN
  by_cases h1 : 1 < l
  · rw [if_pos h1]
    obtain ⟨pl, hdl⟩ := prime_end h1 h2 h3
    refine ⟨by rw [prodN_snoc]; simpa using hp, fun q hq => ?_, ?_⟩
    · rcases List.mem_append.mp hq with h | h
      · exact ⟨(ha q h).1, (ha q h).2.1⟩
      · obtain rfl : q = (l, 1) := by simpa using h
        exact ⟨pl, Nat.le_refl 1⟩
    · rw [List.pairwise_append]
      refine ⟨hs, by simp, fun a h b hb => ?_⟩
      obtain rfl : b = (l, 1) := by simpa using hb
      have := (ha a h).2.2
      show a.1 < l
      omega
  · rw [if_neg h1]
    obtain rfl : l = 1 := by omega
    exact ⟨by simpa using hp, fun q hq => ⟨(ha q hq).1, (ha q hq).2.1⟩, hs⟩
theorem ppL_good : ∀ (f d l n : Nat) (acc : List (Nat × Nat)), 2 ≤ d → (d = 2 ∨ d % 2 = 1) → 1 ≤ l → l + 2 ≤ f + d → (∀ k, 2 ≤ k → k < d → ¬ k ∣ l) → prodN acc * l = n → (∀ q ∈ acc, PrimeN q.1 ∧ 1 ≤ q.2 ∧ q.1 < d) → (acc.Pairwise fun a b => a.1 < b.1) → Good (ppL f d l acc) n
  | 0, d, l, n, acc, hd, _, hl, hf, hk, hp, ha, hs => by
    have : d ≤ d * d := Nat.le_mul_of_pos_right d (by omega)
    exact endN_good hl (by omega) hk hp ha hs
  | f + 1, d, l, n, acc, hd, ho, hl, hf, hk, hp, ha, hs => by
    unfold ppL
    by_cases h : d * d ≤ l
    · rw [if_pos h]
      have hm := stripN_mul l d l 0
      obtain ⟨e1, e2, e3⟩ := stripN_end l d l 0 hd hl (Nat.le_refl l)
      revert hm e1 e2 e3
      generalize stripN l d l 0 = z
      obtain ⟨l', e⟩ := z
      intro hm e1 e2 e3
      simp only [Nat.pow_zero, Nat.mul_one] at hm
      dsimp only at e1 e2 e3
      have hdvd : l' ∣ l := ⟨d ^ e, hm.symm⟩
      have nok : ∀ k, 2 ≤ k → k < (if d = 2 then d + 1 else d + 2) → ¬ k ∣ l' := fun k h1 h2 h3 => by
        by_cases c1 : k < d
        · exact hk k h1 c1 (Nat.dvd_trans h3 hdvd)
        · by_cases c2 : k = d
          · exact e1 (c2 ▸ h3)
          · split at h2
            · omega
            · obtain rfl : k = d + 1 := by omega
              refine hk 2 (Nat.le_refl 2) (by omega) (Nat.dvd_trans (Nat.dvd_trans ?_ h3) hdvd)
              exact ⟨(d + 1) / 2, by omega⟩
      have par : (if d = 2 then d + 1 else d + 2) = 2 ∨ (if d = 2 then d + 1 else d + 2) % 2 = 1 := by split <;> omega
      have big : d + 1 ≤ if d = 2 then d + 1 else d + 2 := by split <;> omega
      by_cases he : 0 < e
      · show Good (ppL f _ l' (if 0 < e then acc ++ [(d, e)] else acc)) n
        rw [if_pos he]
        have hdl : d ∣ l := by
          obtain ⟨e', rfl⟩ : ∃ e', e = e' + 1 := ⟨e - 1, by omega⟩
          exact ⟨l' * d ^ e', by rw [← hm, Nat.pow_succ, Nat.mul_comm d, Nat.mul_assoc]⟩
        have pd : PrimeN d := ⟨hd, fun k h1 h2 h3 => hk k h1 h2 (Nat.dvd_trans h3 hdl)⟩
        refine ppL_good f _ l' n _ (by omega) par e2 (by omega) nok ?_ (fun q hq => ?_) ?_
        · rw [prodN_snoc, ← hp, ← hm, Nat.mul_assoc, Nat.mul_comm (d ^ e)]
        · rcases List.mem_append.mp hq with h | h
          · obtain ⟨a, b, c⟩ := ha q h
            exact ⟨a, b, by omega⟩
          · obtain rfl : q = (d, e) := by simpa using h
            exact ⟨pd, he, by omega⟩
        · rw [List.pairwise_append]
          refine ⟨hs, by simp, fun a h b hb => ?_⟩
          obtain rfl : b = (d, e) := by simpa using hb
          exact (ha a h).2.2
      · show Good (ppL f _ l' (if 0 < e then acc ++ [(d, e)] else acc)) n
        rw [if_neg he]
        obtain rfl : e = 0 := by omega
        refine ppL_good f _ l' n _ (by omega) par e2 (by omega) nok ?_ (fun q hq => ?_) hs
        · rw [← hp, ← hm]; simp
        · obtain ⟨a, b, c⟩ := ha q hq
          exact ⟨a, b, by omega⟩
    · rw [if_neg h]
      exact endN_good hl (by omega) hk hp ha hs
theorem ppN_good {n : Nat} (hn : 1 ≤ n) : Good (ppN n) n :=
  ppL_good n 2 n n [] (Nat.le_refl 2) (.inl rfl) hn (Nat.le_refl _) (fun k h1 h2 => by omega) (by simp [prodN]) (by simp) List.Pairwise.nil
theorem Good.le {ps : List (Nat × Nat)} {n : Nat} (hn : 1 ≤ n) (g : Good ps n) {q : Nat × Nat} (h : q ∈ ps) : q.1 ^ q.2 ≤ n ∧ q.1 ≤ n ∧ q.1 ^ (q.2 - 1) ≤ n := by
  obtain ⟨r, e, _⟩ := g.exact h
  obtain ⟨pq, he⟩ := g.pr q h
  have h1 : q.1 ^ q.2 ≤ n := Nat.le_of_dvd hn ⟨r, e⟩
  refine ⟨h1, Nat.le_trans ?_ h1, Nat.le_trans (Nat.pow_le_pow_right (by have := pq.1; omega) (by omega)) h1⟩
  calc q.1 = q.1 ^ 1 := by simp
    _ ≤ q.1 ^ q.2 := Nat.pow_le_pow_right (by have := pq.1; omega) he
theorem cuN_foldl (ps : List (Nat × Nat)) : ∀ a, ps.foldl (fun m q => m * (q.1 - 1) * q.1 ^ (q.2 - 1)) a = a * cuN ps := by
  unfold cuN
  induction ps with
  | nil => intro a; simp
  | cons x r ih => intro a; rw [List.foldl_cons, List.foldl_cons, ih, ih (1 * _ * _), Nat.one_mul, Nat.mul_assoc, Nat.mul_assoc, Nat.mul_assoc]
theorem cuN_cons (x : Nat × Nat) (r : List (Nat × Nat)) : cuN (x :: r) = (x.1 - 1) * x.1 ^ (x.2 - 1) * cuN r := by
  show r.foldl _ (1 * (x.1 - 1) * x.1 ^ (x.2 - 1)) = _
  rw [cuN_foldl, Nat.one_mul]
theorem cuN_bounds : ∀ {ps : List (Nat × Nat)}, (∀ q ∈ ps, PrimeN q.1 ∧ 1 ≤ q.2) → 1 ≤ cuN ps ∧ cuN ps ≤ prodN ps
  | [], _ => ⟨Nat.le_refl 1, Nat.le_refl 1⟩
  | x :: r, h => by
    obtain ⟨a, b⟩ := cuN_bounds fun q hq => h q (List.mem_cons_of_mem _ hq)
    obtain ⟨p, e⟩ := h x List.mem_cons_self
    have p2 := p.1
    rw [cuN_cons, prodN_cons]
    have h1 : 1 ≤ x.1 ^ (x.2 - 1) := Nat.pos_of_ne_zero (by
      intro z
      have := Nat.pow_pos (n := x.2 - 1) (show 0 < x.1 by omega)
      omega)
    have h2 : x.1 ^ x.2 = x.1 * x.1 ^ (x.2 - 1) := by
      obtain ⟨k, hk⟩ : ∃ k, x.2 = k + 1 := ⟨x.2 - 1, by omega⟩
      rw [hk, Nat.pow_succ, Nat.mul_comm]
      rfl
    refine ⟨Nat.mul_pos (Nat.mul_pos (by omega) h1) a, ?_⟩
    rw [h2]
    exact Nat.mul_le_mul (Nat.mul_le_mul (by omega) (Nat.le_refl _)) b
theorem len_le : ∀ {ps : List (Nat × Nat)}, (∀ q ∈ ps, PrimeN q.1 ∧ 1 ≤ q.2) → 2 ^ ps.length ≤ prodN ps
  | [], _ => Nat.le_refl 1
  | x :: r, h => by
    have ih := len_le fun q hq => h q (List.mem_cons_of_mem _ hq)
    obtain ⟨p, e⟩ := h x List.mem_cons_self
    have p2 := p.1
    rw [prodN_cons, List.length_cons, Nat.pow_succ, Nat.mul_comm]
    refine Nat.mul_le_mul ?_ ih
    calc 2 ≤ x.1 ^ 1 := by simpa using p2
      _ ≤ x.1 ^ x.2 := Nat.pow_le_pow_right (by omega) e

/-! ### orders -/
def IsOrd (m n : Int) (k : Nat) : Prop := 1 ≤ k ∧ n ^ k % m = 1 % m ∧ ∀ j, 1 ≤ j → j < k → n ^ j % m ≠ 1 % m
theorem one_mul_mod {m x : Int} (h : x % m = 1 % m) (y : Int) : x * y % m = y % m := by
  rw [Int.mul_emod, h, ← Int.mul_emod, Int.one_mul]
theorem pow_mul_one {m n : Int} {k : Nat} (h : n ^ k % m = 1 % m) : ∀ q, n ^ (k * q) % m = 1 % m
  | 0 => by simp
  | q + 1 => by rw [Nat.mul_succ, Int.pow_add, Int.mul_comm, one_mul_mod h, pow_mul_one h q]
theorem IsOrd.dvd {m n : Int} {k : Nat} (h : IsOrd m n k) {j : Nat} : n ^ j % m = 1 % m ↔ k ∣ j := by
  constructor
  · intro e
    have e2 : j = k * (j / k) + j % k := (Nat.div_add_mod j k).symm
    rw [e2, Int.pow_add, one_mul_mod (pow_mul_one h.2.1 _)] at e
    by_cases z : j % k = 0
    · exact Nat.dvd_of_mod_eq_zero z
    · exact absurd e (h.2.2 _ (by omega) (Nat.mod_lt _ h.1))
  · rintro ⟨q, rfl⟩
    exact pow_mul_one h.2.1 q
theorem ord_ex {m n : Int} {N : Nat} (h1 : 1 ≤ N) (h : n ^ N % m = 1 % m) : ∃ k, IsOrd m n k := by
  induction N using Nat.strongRecOn with
  | ind N ih =>
    by_cases e : ∃ j, 1 ≤ j ∧ j < N ∧ n ^ j % m = 1 % m
    · obtain ⟨j, a, b, c⟩ := e
      exact ih j b a c
    · exact ⟨N, h1, h, fun j a b c => e ⟨j, a, b, c⟩⟩
theorem IsOrd.inj {m n : Int} {k j : Nat} (a : IsOrd m n k) (b : IsOrd m n j) : k = j :=
  Nat.dvd_antisymm (a.dvd.mp b.2.1) (b.dvd.mp a.2.1)
theorem IsOrd.mod {m n n' : Int} {k : Nat} (a : IsOrd m n k) (e : n % m = n' % m) : IsOrd m n' k := by
  have h : ∀ j, n' ^ j % m = n ^ j % m := fun j => by rw [← pow_emod, ← e, pow_emod]
  exact ⟨a.1, by rw [h]; exact a.2.1, fun j x y => by rw [h]; exact a.2.2 j x y⟩
/-- the order of a power -/
theorem IsOrd.pow {m n : Int} {k t : Nat} (a : IsOrd m n k) (ht : 1 ≤ t) : IsOrd m (n ^ t) (k / Nat.gcd k t) := by
  have hg : 0 < Nat.gcd k t := Nat.gcd_pos_of_pos_left t a.1
  have hc : Nat.Coprime (k / Nat.gcd k t) (t / Nat.gcd k t) := Nat.coprime_div_gcd_div_gcd hg
  have e1 : k = Nat.gcd k t * (k / Nat.gcd k t) := (Nat.mul_div_cancel' (Nat.gcd_dvd_left k t)).symm
  have e2 : t = Nat.gcd k t * (t / Nat.gcd k t) := (Nat.mul_div_cancel' (Nat.gcd_dvd_right k t)).symm
  revert hg hc e1 e2
  generalize k / Nat.gcd k t = x
  generalize t / Nat.gcd k t = y
  generalize Nat.gcd k t = g
  intro hg hc e1 e2
  have key : ∀ j, (n ^ t) ^ j % m = 1 % m ↔ x ∣ j := fun j => by
    rw [← Int.pow_mul, a.dvd, e1, e2, Nat.mul_assoc]
    constructor
    · intro h
      exact Nat.Coprime.dvd_of_dvd_mul_left hc (Nat.dvd_of_mul_dvd_mul_left hg h)
    · rintro ⟨z, rfl⟩
      exact ⟨y * z, by rw [Nat.mul_assoc, Nat.mul_left_comm y x z]⟩
  have h1 : 1 ≤ x := Nat.pos_of_ne_zero fun z => by rw [z, Nat.mul_zero] at e1; have := a.1; omega
  refine ⟨h1, (key _).mpr (Nat.dvd_refl _), fun j u v e => ?_⟩
  have := Nat.le_of_dvd u ((key j).mp e)
  omega
theorem dvd_div_of_mul {a b c : Nat} (hb : 0 < b) (h : a * b ∣ c) : a ∣ c / b := by
  obtain ⟨z, rfl⟩ := h
  exact ⟨z, by rw [show a * b * z = b * (a * z) by simp only [Nat.mul_assoc, Nat.mul_left_comm, Nat.mul_comm], Nat.mul_div_cancel_left _ hb]⟩
/-- the steps of order_of: what holds ahead of the i-th prime -/
structure OrdInv (m n : Int) (N k : Nat) (ps : List (Nat × Nat)) (i o : Nat) : Prop where
  pos : 1 ≤ o
  ko : k ∣ o
  oN : o ∣ N
  old : ∀ j q, j < i → ps[j]? = some q → ¬ q.1 * k ∣ o
  new : ∀ j q, i ≤ j → ps[j]? = some q → q.1 ^ q.2 ∣ o
/-- .. and within the turns for one prime -/
def OrdIn (m n : Int) (q : Nat × Nat) (o0 t o : Nat) : Prop := ∃ s, s ≤ t ∧ o0 = o * q.1 ^ s ∧ (s = t ∨ (q.1 ∣ o ∧ n ^ (o / q.1) % m ≠ 1 % m))
theorem OrdIn.dvd {m n : Int} {q : Nat × Nat} {o0 t o : Nat} (h : OrdIn m n q o0 t o) (ht : t < q.2) (hq : 2 ≤ q.1) (hd : q.1 ^ q.2 ∣ o0) : q.1 ∣ o := by
  obtain ⟨s, hs, e, h⟩ := h
  rcases h with h | h
  · subst h
    rw [e] at hd
    have h1 : q.1 ^ q.2 = q.1 ^ (q.2 - s) * q.1 ^ s := by rw [← Nat.pow_add]; congr 1; omega
    rw [h1] at hd
    have h2 := Nat.dvd_of_mul_dvd_mul_right (Nat.pow_pos (by omega)) hd
    refine Nat.dvd_trans ?_ h2
    exact ⟨q.1 ^ (q.2 - s - 1), by rw [Nat.mul_comm, ← Nat.pow_succ]; congr 1; omega⟩
  · exact h.1
theorem OrdIn.step1 {m n : Int} {q : Nat × Nat} {o0 t o : Nat} (h : OrdIn m n q o0 t o) (hd : q.1 ∣ o) (hp : n ^ (o / q.1) % m = 1 % m) : OrdIn m n q o0 (t + 1) (o / q.1) := by
  obtain ⟨s, hs, e, h⟩ := h
  rcases h with h | h
  · subst h
    exact ⟨s + 1, Nat.le_refl _, by rw [e, Nat.pow_succ, Nat.mul_comm (q.1 ^ s), ← Nat.mul_assoc, Nat.div_mul_cancel hd], .inl rfl⟩
  · exact absurd hp h.2
theorem OrdIn.step2 {m n : Int} {q : Nat × Nat} {o0 t o : Nat} (h : OrdIn m n q o0 t o) (hd : q.1 ∣ o) (hp : n ^ (o / q.1) % m ≠ 1 % m) : OrdIn m n q o0 (t + 1) o := by
  obtain ⟨s, hs, e, h⟩ := h
  exact ⟨s, by omega, e, .inr ⟨hd, hp⟩⟩
theorem OrdInv.next {m n : Int} {N k : Nat} {ps : List (Nat × Nat)} {i o0 o : Nat} {q : Nat × Nat} (hN : 1 ≤ N) (g : Good ps N) (hk : IsOrd m n k) (I : OrdInv m n N k ps i o0) (hi : ps[i]? = some q) (h : OrdIn m n q o0 q.2 o) (ko : k ∣ o) : OrdInv m n N k ps (i + 1) o := by
  obtain ⟨s, hs, e, h⟩ := h
  have pq := (g.pr q (List.mem_of_getElem? hi)).1
  have hoo : o ∣ o0 := ⟨q.1 ^ s, e⟩
  have op : 1 ≤ o := Nat.pos_of_ne_zero fun z => by rw [z, Nat.zero_mul] at e; have := I.pos; omega
  refine ⟨op, ko, Nat.dvd_trans hoo I.oN, fun j q' hj hq' hd => ?_, fun j q' hj hq' => ?_⟩
  · by_cases c : j < i
    · exact I.old j q' c hq' (Nat.dvd_trans hd hoo)
    · obtain rfl : j = i := by omega
      rw [hi] at hq'
      cases hq'
      rcases h with h | h
      · subst h
        obtain ⟨r, er, hr⟩ := g.exact (List.mem_of_getElem? hi)
        have h1 : q.1 ∣ o := Nat.dvd_trans (Nat.dvd_mul_right _ _) hd
        have h2 : o * q.1 ^ q.2 ∣ q.1 ^ q.2 * r := by rw [← e, ← er]; exact I.oN
        rw [Nat.mul_comm] at h2
        exact hr (Nat.dvd_trans h1 (Nat.dvd_of_mul_dvd_mul_left (Nat.pow_pos (by have := pq.1; omega)) h2))
      · refine h.2 (hk.dvd.mpr ?_)
        rw [Nat.mul_comm] at hd
        exact dvd_div_of_mul (by have := pq.1; omega) hd
  · have h1 := I.new j q' (by omega) hq'
    rw [e] at h1
    have pq' := (g.pr q' (List.mem_of_getElem? hq')).1
    have ne : q.1 < q'.1 := by
      obtain ⟨a1, a2⟩ := List.getElem?_eq_some_iff.mp hi
      obtain ⟨b1, b2⟩ := List.getElem?_eq_some_iff.mp hq'
      have := List.pairwise_iff_getElem.mp g.asc i j a1 b1 (by omega)
      rw [a2, b2] at this
      exact this
    have cop : Nat.Coprime (q'.1 ^ q'.2) (q.1 ^ s) := Nat.Coprime.pow_left _ (Nat.Coprime.pow_right _ (pq'.cop fun d => by
      have := pq'.eq pq d
      omega))
    exact Nat.Coprime.dvd_of_dvd_mul_right cop h1
theorem OrdInv.start {m n : Int} {N k : Nat} {ps : List (Nat × Nat)} (hN : 1 ≤ N) (g : Good ps N) (hk : IsOrd m n k) (h : n ^ N % m = 1 % m) : OrdInv m n N k ps 0 N :=
  ⟨hN, hk.dvd.mp h, Nat.dvd_refl N, fun j q hj => by omega, fun j q _ hq => by
    obtain ⟨r, e, _⟩ := g.exact (List.mem_of_getElem? hq)
    exact ⟨r, e⟩⟩
theorem OrdInv.end {m n : Int} {N k : Nat} {ps : List (Nat × Nat)} {o : Nat} (hN : 1 ≤ N) (g : Good ps N) (hk : IsOrd m n k) (I : OrdInv m n N k ps ps.length o) : o = k := by
  obtain ⟨z, e⟩ := I.ko
  have hz : z = 1 := by
    refine Classical.byContradiction fun c => ?_
    have z0 : z ≠ 0 := fun q => by rw [q, Nat.mul_zero] at e; have := I.pos; omega
    obtain ⟨p, hp, hd⟩ := prime_dvd z (by omega)
    have hpN : p ∣ N := Nat.dvd_trans (Nat.dvd_trans hd ⟨k, by rw [e, Nat.mul_comm]⟩) I.oN
    obtain ⟨q, hq, rfl⟩ := g.all hp hpN
    obtain ⟨j, hj, ej⟩ := List.getElem_of_mem hq
    refine I.old j q hj (by rw [List.getElem?_eq_getElem hj, ej]) ?_
    obtain ⟨y, rfl⟩ := hd
    exact ⟨y, by rw [e, Nat.mul_comm q.1 k, Nat.mul_assoc]⟩
  rw [e, hz, Nat.mul_one]
/-! a number without a common divisor, to as many as the number of units, for small moduli: primes tried one by one -/
def smallP : List Nat := [2, 3, 5, 7, 11, 13, 17, 19, 23, 29, 31, 37, 41, 43, 47, 53, 59, 61, 67, 71, 73, 79, 83, 89, 97, 101, 103, 107, 109, 113, 127, 131, 137, 139, 149, 151, 157, 163, 167, 173, 179, 181, 191, 193, 197, 199, 211, 223, 227, 229, 233, 239, 241, 251, 257, 263, 269, 271, 277, 281, 283, 293, 307, 311, 313, 317, 331, 337, 347, 349, 353, 359, 367, 373, 379, 383, 389, 397, 401, 409, 419, 421, 431, 433, 439, 443, 449, 457, 461, 463, 467, 479, 487, 491, 499, 503, 509, 521, 523, 541, 547, 557, 563, 569, 571, 577, 587, 593, 599, 601, 607, 613, 617, 619, 631, 641, 643, 647, 653, 659, 661, 673, 677, 683, 691]
def smallPB : Bool := (List.range 700).all fun p => Nat.blt p 2 || smallP.contains p || (List.range 26).any fun k => (k + 2) < p && p % (k + 2) == 0
theorem smallPB_ok : smallPB = true := by decide +kernel
theorem smallP_mem {p : Nat} (hp : PrimeN p) (h : p < 700) : p ∈ smallP := by
  have h2 := List.all_eq_true.mp (show (List.range 700).all _ = true from smallPB_ok) p (List.mem_range.mpr h)
  simp only [Bool.or_eq_true] at h2
  rcases h2 with (h2 | h2) | h2
  · have h3 : p < 2 := Nat.blt_eq.mp h2
    have := hp.1
    omega
  · exact List.contains_iff_mem.mp h2
  · obtain ⟨k, _, hk⟩ := List.any_eq_true.mp h2
    simp only [Bool.and_eq_true, decide_eq_true_eq, beq_iff_eq] at hk
    exact absurd (Nat.dvd_of_mod_eq_zero hk.2) (hp.2 _ (by omega) hk.1)
def eulerB : Bool := (List.range 701).all fun m => m == 0 || (let N := cuN (ppN m); smallP.all fun p => Nat.ble m p || m % p == 0 || p ^ N % m == 1 % m)
theorem euler_ok : eulerB = true := by decide +kernel
theorem euler_nat {m : Nat} (h1 : 1 ≤ m) (h2 : m ≤ 700) : ∀ a, a < m → Nat.gcd a m = 1 → a ^ (cuN (ppN m)) % m = 1 % m := by
  intro a
  induction a using Nat.strongRecOn with
  | ind a ih =>
    intro ha hg
    have hN := (cuN_bounds (ppN_good h1).pr).1
    by_cases a0 : a = 0
    · subst a0
      rw [Nat.gcd_zero_left] at hg
      subst hg
      rw [Nat.mod_one, Nat.mod_one]
    by_cases a1 : a = 1
    · subst a1; rw [Nat.one_pow]
    obtain ⟨p, hp, hd⟩ := prime_dvd a (by omega)
    obtain ⟨b, rfl⟩ := hd
    have p2 := hp.1
    have hb : b ≠ 0 := fun z => by simp [z] at a0
    have hpa : p ≤ p * b := Nat.le_mul_of_pos_right p (by omega)
    have hba : b < p * b := by
      have := Nat.mul_le_mul_right b p2
      omega
    have gp : Nat.gcd p m = 1 := Nat.dvd_one.mp (hg ▸ Nat.dvd_gcd (Nat.dvd_trans (Nat.gcd_dvd_left p m) (Nat.dvd_mul_right p b)) (Nat.gcd_dvd_right p m))
    have gb : Nat.gcd b m = 1 := Nat.dvd_one.mp (hg ▸ Nat.dvd_gcd (Nat.dvd_trans (Nat.gcd_dvd_left b m) (Nat.dvd_mul_left b p)) (Nat.gcd_dvd_right b m))
    have hpm : p ^ (cuN (ppN m)) % m = 1 % m := by
      have h := List.all_eq_true.mp (show (List.range 701).all _ = true from euler_ok) m (List.mem_range.mpr (by omega))
      simp only [Bool.or_eq_true, beq_iff_eq, show ¬ m = 0 by omega, false_or] at h
      have h4 := List.all_eq_true.mp h p (smallP_mem hp (by omega))
      simp only [Bool.or_eq_true, beq_iff_eq] at h4
      rcases h4 with (h4 | h4) | h4
      · have := Nat.ble_eq.mp h4; omega
      · have h5 : p ∣ m := Nat.dvd_of_mod_eq_zero h4
        have h6 := Nat.dvd_gcd (Nat.dvd_refl p) h5
        rw [gp] at h6
        have := Nat.dvd_one.mp h6
        omega
      · exact h4
    have hbm := ih b hba (by omega) gb
    rw [Nat.mul_pow, Nat.mul_mod, hpm, hbm, ← Nat.mul_mod]
theorem euler_small {m : Nat} {n : Int} (h1 : 1 ≤ m) (h2 : m ≤ 700) (hg : Nat.gcd m n.natAbs = 1) : n ^ (cuN (ppN m)) % (m : Int) = 1 % (m : Int) := by
  have hm : (0 : Int) < m := by omega
  obtain ⟨a, ha⟩ : ∃ a : Nat, n % (m : Int) = a := ⟨(n % (m : Int)).toNat, by have := Int.emod_nonneg n (show (m : Int) ≠ 0 by omega); omega⟩
  have ha2 : a < m := by have := Int.emod_lt_of_pos n hm; omega
  have hga : Nat.gcd a m = 1 := by
    have d1 : Nat.gcd a m ∣ m := Nat.gcd_dvd_right a m
    have d2 : Nat.gcd a m ∣ n.natAbs := by
      have e : n = (m : Int) * (n / (m : Int)) + (a : Int) := by rw [← ha]; exact (Int.mul_ediv_add_emod n (m : Int)).symm
      have h : ((Nat.gcd a m : Nat) : Int) ∣ n := by
        rw [e]
        exact Int.dvd_add (Int.dvd_mul_of_dvd_left (Int.natCast_dvd_natCast.mpr d1)) (Int.natCast_dvd_natCast.mpr (Nat.gcd_dvd_left a m))
      have h9 := Int.natAbs_dvd_natAbs.mpr h
      rw [Int.natAbs_natCast] at h9
      exact h9
    have := Nat.dvd_gcd d1 d2
    rw [hg] at this
    exact Nat.dvd_one.mp this
  have h4 := euler_nat h1 h2 a ha2 hga
  rw [← pow_emod, ha, ← Int.natCast_pow, ← Int.natCast_emod, h4]
  rw [Int.natCast_emod]
  rfl

/-! ### makers of primes -/
def ev (x : Int) : List Int → Int
  | [] => 0
  | c :: g => c + x * ev x g
def qu (r : Int) : List Int → List Int
  | [] => []
  | [_] => []
  | _ :: d :: g => ev r (d :: g) :: qu r (d :: g)
def ld : List Int → Int
  | [] => 0
  | [c] => c
  | _ :: d :: g => ld (d :: g)
theorem qu_len (r : Int) : ∀ f : List Int, (qu r f).length = f.length - 1
  | [] => rfl
  | [_] => rfl
  | _ :: d :: g => by
    have := qu_len r (d :: g)
    simp only [qu, List.length_cons] at this ⊢
    omega
theorem qu_ev (x r : Int) : ∀ f : List Int, ev x f - ev r f = (x - r) * ev x (qu r f)
  | [] => by simp [ev, qu]
  | [c] => by simp [ev, qu]
  | c :: d :: g => by
    have h := qu_ev x r (d :: g)
    show (c + x * ev x (d :: g)) - (c + r * ev r (d :: g)) = (x - r) * (ev r (d :: g) + x * ev x (qu r (d :: g)))
    generalize ev x (qu r (d :: g)) = q at *
    generalize ev x (d :: g) = a at *
    generalize ev r (d :: g) = b at *
    obtain rfl : a = b + (x - r) * q := by omega
    rw [Int.mul_add, Int.mul_add, Int.sub_mul x r b, Int.mul_left_comm x (x - r) q]
    omega
theorem qu_ld (r : Int) : ∀ f : List Int, 2 ≤ f.length → ld (qu r f) = ld f
  | [], h => by simp at h
  | [_], h => by simp at h
  | [c, d], _ => by simp [qu, ld, ev]
  | c :: d :: e :: g, _ => by
    have h := qu_ld r (d :: e :: g) (by simp)
    show ld (ev r (d :: e :: g) :: ev r (e :: g) :: qu r (e :: g)) = ld (d :: e :: g)
    rw [← h]
    rfl
theorem PrimeN.dvd_mulI {p : Nat} (hp : PrimeN p) {a b : Int} (h : (p : Int) ∣ a * b) : (p : Int) ∣ a ∨ (p : Int) ∣ b := by
  have := Int.natAbs_dvd_natAbs.mpr h
  rw [Int.natAbs_mul, Int.natAbs_natCast] at this
  rcases hp.dvd_mul this with h | h
  · exact .inl (Int.natAbs_dvd_natAbs.mp (by rw [Int.natAbs_natCast]; exact h))
  · exact .inr (Int.natAbs_dvd_natAbs.mp (by rw [Int.natAbs_natCast]; exact h))
/-- a poly has no more roots modulo a prime than its degree -/
theorem root_bound {p : Nat} (hp : PrimeN p) : ∀ (n : Nat) (f : List Int), f.length = n + 1 → ¬ (p : Int) ∣ ld f → ∀ rs : List Int, (rs.Pairwise fun x y => ¬ (p : Int) ∣ y - x) → (∀ x ∈ rs, (p : Int) ∣ ev x f) → rs.length ≤ n
  | 0, f, hl, hd, rs, _, hr => by
    match f, hl with
    | [c], _ =>
      match rs, hr with
      | [], _ => exact Nat.le_refl _
      | x :: r, hr => exact absurd (by simpa [ev, ld] using hr x List.mem_cons_self) hd
  | n + 1, f, hl, hd, rs, hp2, hr => by
    match rs, hp2, hr with
    | [], _, _ => exact Nat.zero_le _
    | r :: rest, hp2, hr =>
      obtain ⟨h1, h2⟩ := List.pairwise_cons.mp hp2
      have := root_bound hp n (qu r f) (by rw [qu_len, hl]; rfl) (by rw [qu_ld r f (by omega)]; exact hd) rest h2 (fun x hx => by
        have e : (p : Int) ∣ (x - r) * ev x (qu r f) := by
          rw [← qu_ev]
          exact Int.dvd_sub (hr x (List.mem_cons_of_mem _ hx)) (hr r List.mem_cons_self)
        exact (hp.dvd_mulI e).resolve_left (h1 x hx))
      rw [List.length_cons]
      omega
def xk (k : Nat) : List Int := List.replicate k 0 ++ [1]
theorem xk_ev (x : Int) : ∀ k, ev x (xk k) = x ^ k
  | 0 => by simp [xk, ev]
  | k + 1 => by
    have h := xk_ev x k
    show 0 + x * ev x (xk k) = _
    rw [h, Int.pow_succ, Int.zero_add, Int.mul_comm]
theorem xk_ld : ∀ k, ld (xk k) = 1
  | 0 => rfl
  | 1 => rfl
  | k + 2 => xk_ld (k + 1)
theorem dvd_mod {p a b : Int} : p ∣ a - b ↔ a % p = b % p := by
  rw [Int.emod_eq_emod_iff_emod_sub_eq_zero]
  exact ⟨Int.emod_eq_zero_of_dvd, Int.dvd_of_emod_eq_zero⟩
/-- a power that does not leave 1 -/
theorem not_all {p k : Nat} (hp : PrimeN p) (h1 : 1 ≤ k) (h2 : k < p - 1) : ∃ a : Nat, 1 ≤ a ∧ a < p ∧ (a : Int) ^ k % (p : Int) ≠ 1 % (p : Int) := by
  refine Classical.byContradiction fun hn => ?_
  have all : ∀ a : Nat, 1 ≤ a → a < p → (a : Int) ^ k % (p : Int) = 1 % (p : Int) := fun a x y => Classical.byContradiction fun h => hn ⟨a, x, y, h⟩
  have hf : ((-1 : Int) :: xk (k - 1)).length = k + 1 := by simp [xk]; omega
  have hld : ld ((-1 : Int) :: xk (k - 1)) = 1 := by
    have : ∀ l : List Int, l ≠ [] → ld (-1 :: l) = ld l := fun l h => by
      match l, h with
      | d :: g, _ => rfl
    rw [this _ (by simp [xk]), xk_ld]
  have hev : ∀ x : Int, ev x ((-1 : Int) :: xk (k - 1)) = x ^ k - 1 := fun x => by
    show -1 + x * ev x (xk (k - 1)) = _
    rw [xk_ev, Int.mul_comm, ← Int.pow_succ, show (k - 1).succ = k by omega]
    omega
  have p2 := hp.1
  have := root_bound hp k _ hf (by
    rw [hld]
    intro h
    have := Int.le_of_dvd (by decide) h
    omega) ((List.range (p - 1)).map fun i => ((i + 1 : Nat) : Int)) (by
      rw [List.pairwise_map]
      refine (List.nodup_range (n := p - 1)).imp_of_mem fun {a b} ha hb hab hd => ?_
      rw [List.mem_range] at ha hb
      have hd2 : (p : Int) ∣ (b : Int) - a := by
        have e : ((b + 1 : Nat) : Int) - ((a + 1 : Nat) : Int) = (b : Int) - a := by omega
        rw [← e]; exact hd
      obtain ⟨q, hq⟩ := hd2
      have q0 : q = 0 := by
        refine Classical.byContradiction fun q0 => ?_
        rcases (show q ≤ -1 ∨ 1 ≤ q by omega) with h | h
        · have := Int.mul_le_mul_of_nonneg_left h (show (0 : Int) ≤ p by omega)
          omega
        · have := Int.mul_le_mul_of_nonneg_left h (show (0 : Int) ≤ p by omega)
          omega
      rw [q0] at hq
      exact hab (by omega)) (by
      intro x hx
      obtain ⟨i, hi, rfl⟩ := List.mem_map.mp hx
      rw [List.mem_range] at hi
      rw [hev]
      exact dvd_mod.mpr (all (i + 1) (by omega) (by omega)))
  rw [List.length_map, List.length_range] at this
  omega
/-! Fermat -/
def prL (l : List Int) : Int := l.foldr (· * ·) 1
theorem prL_perm {l m : List Int} (h : l.Perm m) : prL l = prL m := by
  induction h with
  | nil => rfl
  | cons x _ ih => simp only [prL, List.foldr_cons] at ih ⊢; rw [ih]
  | swap x y l => simp only [prL, List.foldr_cons]; rw [Int.mul_left_comm]
  | trans _ _ a b => exact a.trans b
theorem prL_map (a p : Int) : ∀ l : List Int, prL (l.map fun i => a * i % p) % p = a ^ l.length * prL l % p
  | [] => by simp [prL]
  | x :: r => by
    have h := prL_map a p r
    simp only [prL, List.map_cons, List.foldr_cons, List.length_cons] at h ⊢
    rw [Int.mul_emod, h, Int.emod_emod_of_dvd _ (Int.dvd_refl p), ← Int.mul_emod, Int.pow_succ]
    congr 1
    generalize List.foldr (fun x1 x2 => x1 * x2) 1 r = z
    rw [Int.mul_assoc, Int.mul_assoc, Int.mul_left_comm x, Int.mul_left_comm a]
theorem bez : ∀ a b : Nat, ∃ u v : Int, (a : Int) * u + b * v = (Nat.gcd a b : Nat) := by
  intro a b
  induction a, b using Nat.gcd.induction with
  | H0 n => exact ⟨0, 1, by simp⟩
  | H1 m n hm ih =>
    obtain ⟨u, v, h⟩ := ih
    refine ⟨v - (n / m : Nat) * u, u, ?_⟩
    rw [Nat.gcd_rec, ← h]
    have e : ((n % m : Nat) : Int) = n - m * (n / m : Nat) := by
      have := Nat.div_add_mod n m
      have h2 : (n : Int) = m * (n / m : Nat) + (n % m : Nat) := by exact_mod_cast this.symm
      omega
    rw [e, Int.mul_sub, Int.sub_mul, Int.mul_assoc]
    omega
theorem inv_ex {p : Nat} (hp : PrimeN p) {a : Int} (h : ¬ (p : Int) ∣ a) : ∃ b : Int, a * b % p = 1 % p := by
  have hc : Nat.gcd p a.natAbs = 1 := hp.cop fun hd => h (Int.natAbs_dvd_natAbs.mp (by rw [Int.natAbs_natCast]; exact hd))
  obtain ⟨u, v, e⟩ := bez p a.natAbs
  rw [hc] at e
  have key : ∀ b : Int, a * b = a.natAbs * v → a * b % p = 1 % p := fun b hb => by
    rw [hb]
    refine dvd_mod.mp ⟨-u, ?_⟩
    rw [Int.mul_neg]
    omega
  rcases Int.natAbs_eq a with h | h
  · exact ⟨v, key v (by rw [← h])⟩
  · exact ⟨-v, key (-v) (by rw [Int.mul_neg, ← Int.neg_mul]; congr 1; omega)⟩
theorem fermat {p : Nat} (hp : PrimeN p) {a : Int} (h : ¬ (p : Int) ∣ a) : a ^ (p - 1) % p = 1 % p := by
  have p2 := hp.1
  have hp0 : (0 : Int) < p := by omega
  let L : List Int := (List.range (p - 1)).map fun i => ((i + 1 : Nat) : Int)
  have hL : ∀ x : Int, x ∈ L ↔ 1 ≤ x ∧ x < p := fun x => by
    simp only [L, List.mem_map, List.mem_range]
    constructor
    · rintro ⟨i, hi, rfl⟩; omega
    · rintro ⟨h1, h2⟩; exact ⟨(x - 1).toNat, by omega, by omega⟩
  have nL : L.Nodup := by
    refine List.pairwise_map.mpr ((List.nodup_range (n := p - 1)).imp fun {a b} hab e => hab ?_)
    omega
  have small : ∀ x : Int, 1 ≤ x → x < p → ¬ (p : Int) ∣ x := fun x x1 x2 hd => by
    have := Int.le_of_dvd (by omega) hd
    omega
  have nd : ∀ x y : Int, ¬ (p : Int) ∣ x → ¬ (p : Int) ∣ y → 1 ≤ x * y % p ∧ x * y % p < p := fun x y hx hy => by
    have h1 := Int.emod_nonneg (x * y) (show (p : Int) ≠ 0 by omega)
    have h2 := Int.emod_lt_of_pos (x * y) hp0
    have h3 : x * y % p ≠ 0 := fun e => (hp.dvd_mulI (Int.dvd_of_emod_eq_zero e)).elim hx hy
    omega
  obtain ⟨b, hb⟩ := inv_ex hp h
  have hb2 : ¬ (p : Int) ∣ b := fun hd => by
    have h0 : a * b % p = 0 := Int.emod_eq_zero_of_dvd (Int.dvd_trans hd (Int.dvd_mul_left a b))
    rw [h0] at hb
    have : (1 : Int) % p = 1 := Int.emod_eq_of_lt (by decide) (by omega)
    omega
  have perm : (L.map fun i => a * i % p).Perm L := by
    refine (List.perm_ext_iff_of_nodup ?_ nL).mpr fun x => ?_
    · refine List.pairwise_map.mpr (nL.imp_of_mem fun {x y} hx hy hxy e => hxy ?_)
      have e2 : (p : Int) ∣ a * (x - y) := by rw [Int.mul_sub]; exact dvd_mod.mpr e
      have e3 := dvd_mod.mp ((hp.dvd_mulI e2).resolve_left h)
      have := (hL x).mp hx
      have := (hL y).mp hy
      rw [Int.emod_eq_of_lt (by omega) (by omega), Int.emod_eq_of_lt (by omega) (by omega)] at e3
      exact e3
    · rw [hL, List.mem_map]
      constructor
      · rintro ⟨i, hi, rfl⟩
        have := (hL i).mp hi
        exact nd a i h (small i this.1 this.2)
      · rintro ⟨h1, h2⟩
        refine ⟨b * x % p, (hL _).mpr (nd b x hb2 (small x h1 h2)), ?_⟩
        rw [Int.mul_emod, Int.emod_emod_of_dvd _ (Int.dvd_refl _), ← Int.mul_emod, ← Int.mul_assoc, Int.mul_emod, hb, ← Int.mul_emod, Int.one_mul]
        exact Int.emod_eq_of_lt (by omega) h2
  have e := prL_map a p L
  rw [prL_perm perm] at e
  have hlen : L.length = p - 1 := by simp [L]
  rw [hlen] at e
  have hprod : ∀ l : List Int, (∀ x ∈ l, ¬ (p : Int) ∣ x) → ¬ (p : Int) ∣ prL l := by
    intro l
    induction l with
    | nil =>
      intro _ hd
      have := Int.le_of_dvd (show (0 : Int) < 1 by decide) hd
      omega
    | cons x r ih =>
      intro hx hd
      rcases hp.dvd_mulI (show (p : Int) ∣ x * prL r from hd) with hd | hd
      · exact hx x List.mem_cons_self hd
      · exact ih (fun y hy => hx y (List.mem_cons_of_mem _ hy)) hd
  have hP := hprod L fun x hx => small x ((hL x).mp hx).1 ((hL x).mp hx).2
  have e4 : (p : Int) ∣ (a ^ (p - 1) - 1) * prL L := by
    rw [Int.sub_mul, Int.one_mul]
    exact dvd_mod.mpr e.symm
  exact dvd_mod.mp ((hp.dvd_mulI e4).resolve_right hP)
/-- a prime has a maker -/
theorem pow_mul_dist (a b : Int) : ∀ n : Nat, (a * b) ^ n = a ^ n * b ^ n
  | 0 => by simp
  | n + 1 => by
    rw [Int.pow_succ, Int.pow_succ, Int.pow_succ, pow_mul_dist a b n, Int.mul_assoc, Int.mul_assoc]
    congr 1
    rw [Int.mul_left_comm]
theorem prL_pow (N : Nat) (m : Int) : ∀ l : List Int, (∀ x ∈ l, x ^ N % m = 1 % m) → prL l ^ N % m = 1 % m
  | [], _ => by simp [prL, Int.one_pow]
  | x :: r, h => by
    have h2 := prL_pow N m r fun y hy => h y (List.mem_cons_of_mem _ hy)
    show (x * prL r) ^ N % m = _
    rw [pow_mul_dist, one_mul_mod (h x List.mem_cons_self), h2]
theorem prL_app : ∀ l r : List Int, prL (l ++ r) = prL l * prL r
  | [], r => by simp [prL]
  | x :: l, r => by
    show x * prL (l ++ r) = x * prL l * prL r
    rw [prL_app l r, Int.mul_assoc]
theorem maker_any {p : Nat} (hp : PrimeN p) {ps : List (Nat × Nat)} (g : Good ps (p - 1)) : ∃ a : Int, ¬ (p : Int) ∣ a ∧ ∀ q ∈ ps, a ^ ((p - 1) / q.1) % (p : Int) ≠ 1 % (p : Int) := by
  have p2 := hp.1
  have ex : ∀ q : Nat × Nat, ∃ a : Nat, q ∈ ps → 1 ≤ a ∧ a < p ∧ (a : Int) ^ ((p - 1) / q.1) % (p : Int) ≠ 1 % (p : Int) := fun q => by
    by_cases hq : q ∈ ps
    · have pq := (g.pr q hq).1
      obtain ⟨r, e, _⟩ := g.exact hq
      have q2 := pq.1
      have e1 := (g.pr q hq).2
      have hd : q.1 ∣ p - 1 := by
        obtain ⟨k, hk⟩ : ∃ k, q.2 = k + 1 := ⟨q.2 - 1, by omega⟩
        exact ⟨q.1 ^ k * r, by rw [e, hk, Nat.pow_succ, Nat.mul_comm (q.1 ^ k), Nat.mul_assoc]⟩
      have p1 : 0 < p - 1 := by omega
      obtain ⟨a, h1, h2, h3⟩ := not_all hp (k := (p - 1) / q.1) (Nat.div_pos (Nat.le_of_dvd p1 hd) (by omega)) (Nat.div_lt_self p1 (by omega))
      exact ⟨a, fun _ => ⟨h1, h2, h3⟩⟩
    · exact ⟨0, fun h => absurd h hq⟩
  have ⟨A, hA⟩ : ∃ A : Nat × Nat → Nat, ∀ q ∈ ps, 1 ≤ A q ∧ A q < p ∧ (A q : Int) ^ ((p - 1) / q.1) % (p : Int) ≠ 1 % (p : Int) := ⟨fun q => (ex q).choose, fun q hq => (ex q).choose_spec hq⟩
  have nd : ∀ q ∈ ps, ¬ (p : Int) ∣ (A q : Int) := fun q hq hd => by
    have := hA q hq
    have := Int.le_of_dvd (by omega) hd
    omega
  have ndp : ∀ (a : Int) (k : Nat), ¬ (p : Int) ∣ a → ¬ (p : Int) ∣ a ^ k := fun a k h => by
    induction k with
    | zero =>
      intro hd
      have := Int.le_of_dvd (show (0 : Int) < a ^ 0 by simp) hd
      simp at this
      omega
    | succ k ih =>
      intro hd
      rw [Int.pow_succ] at hd
      exact (hp.dvd_mulI hd).elim ih h
  let B : Nat × Nat → Int := fun q => (A q : Int) ^ ((p - 1) / q.1 ^ q.2)
  refine ⟨prL (ps.map B), ?_, fun q hq => ?_⟩
  · have all : ∀ x ∈ ps.map B, ¬ (p : Int) ∣ x := fun x hx => by
      obtain ⟨q, hq, rfl⟩ := List.mem_map.mp hx
      exact ndp _ _ (nd q hq)
    generalize ps.map B = l at all
    induction l with
    | nil =>
      intro hd
      have := Int.le_of_dvd (show (0 : Int) < 1 by decide) hd
      omega
    | cons x r ih =>
      intro hd
      rcases hp.dvd_mulI (show (p : Int) ∣ x * prL r from hd) with hd | hd
      · exact all x List.mem_cons_self hd
      · exact ih (fun y hy => all y (List.mem_cons_of_mem _ hy)) hd
  · have pq := (g.pr q hq).1
    have q1 : 0 < q.1 := by have := pq.1; omega
    obtain ⟨r, er, hr⟩ := g.exact hq
    have e1 := (g.pr q hq).2
    have hd : q.1 * ((p - 1) / q.1) = p - 1 := by
      refine Nat.mul_div_cancel' ?_
      obtain ⟨k, hk⟩ : ∃ k, q.2 = k + 1 := ⟨q.2 - 1, by omega⟩
      exact ⟨q.1 ^ k * r, by rw [er, hk, Nat.pow_succ, Nat.mul_comm (q.1 ^ k), Nat.mul_assoc]⟩
    have others : ∀ x ∈ ps, x ≠ q → B x ^ ((p - 1) / q.1) % (p : Int) = 1 % (p : Int) := fun x hx hne => by
      have px := (g.pr x hx).1
      have hne2 : x.1 ≠ q.1 := fun e => by
        have hpw := g.asc
        obtain ⟨i, hi, ei⟩ := List.getElem_of_mem hx
        obtain ⟨j, hj, ej⟩ := List.getElem_of_mem hq
        rw [List.pairwise_iff_getElem] at hpw
        rcases Nat.lt_trichotomy i j with h | h | h
        · have := hpw i j hi hj h
          rw [ei, ej] at this
          omega
        · subst h
          exact hne (ei.symm.trans ej)
        · have := hpw j i hj hi h
          rw [ei, ej] at this
          omega
      obtain ⟨s, es, _⟩ := g.exact hx
      have hx1 : 0 < x.1 ^ x.2 := Nat.pow_pos (by have := px.1; omega)
      have hcop : Nat.Coprime (x.1 ^ x.2) q.1 := Nat.Coprime.pow_left _ (px.cop fun h => hne2 (px.eq pq h))
      obtain ⟨t, et⟩ : x.1 ^ x.2 ∣ (p - 1) / q.1 := hcop.dvd_of_dvd_mul_left (by rw [hd]; exact ⟨s, es⟩)
      show ((A x : Int) ^ ((p - 1) / x.1 ^ x.2)) ^ ((p - 1) / q.1) % (p : Int) = _
      rw [← Int.pow_mul, et, ← Nat.mul_assoc, Nat.div_mul_cancel ⟨s, es⟩]
      exact pow_mul_one (fermat hp (nd x hx)) t
    obtain ⟨l1, l2, el⟩ := List.append_of_mem hq
    have nod : ∀ x, x ∈ l1 ∨ x ∈ l2 → x ≠ q := by
      have hpw := g.asc
      rw [el] at hpw
      have h1 := List.pairwise_append.mp hpw
      rintro x (hx | hx) rfl
      · have := h1.2.2 x hx x List.mem_cons_self
        omega
      · have := (List.pairwise_cons.mp h1.2.1).1 x hx
        omega
    have o1 : prL (l1.map B) ^ ((p - 1) / q.1) % (p : Int) = 1 % (p : Int) := prL_pow _ _ _ fun y hy => by
      obtain ⟨x, hx, rfl⟩ := List.mem_map.mp hy
      exact others x (by rw [el]; exact List.mem_append_left _ hx) (nod x (.inl hx))
    have o2 : prL (l2.map B) ^ ((p - 1) / q.1) % (p : Int) = 1 % (p : Int) := prL_pow _ _ _ fun y hy => by
      obtain ⟨x, hx, rfl⟩ := List.mem_map.mp hy
      exact others x (by rw [el]; exact List.mem_append_right _ (List.mem_cons_of_mem _ hx)) (nod x (.inr hx))
    rw [el, List.map_append, List.map_cons, prL_app]
    show ¬ (prL (l1.map B) * (B q * prL (l2.map B))) ^ ((p - 1) / q.1) % (p : Int) = 1 % (p : Int)
    rw [pow_mul_dist, pow_mul_dist, one_mul_mod o1, Int.mul_comm, one_mul_mod o2]
    intro hc
    have hm : (p - 1) / q.1 ^ q.2 = r := by rw [er, Nat.mul_div_cancel_left _ (Nat.pow_pos q1)]
    have hc2 : ((A q : Int) ^ ((p - 1) / q.1)) ^ r % (p : Int) = 1 % (p : Int) := by
      have e : B q ^ ((p - 1) / q.1) = ((A q : Int) ^ ((p - 1) / q.1)) ^ r := by
        show ((A q : Int) ^ ((p - 1) / q.1 ^ q.2)) ^ ((p - 1) / q.1) = _
        rw [hm, ← Int.pow_mul, ← Int.pow_mul, Nat.mul_comm]
      rw [← e]; exact hc
    have hc3 : ((A q : Int) ^ ((p - 1) / q.1)) ^ q.1 % (p : Int) = 1 % (p : Int) := by
      rw [← Int.pow_mul, Nat.mul_comm, hd]
      exact fermat hp (nd q hq)
    obtain ⟨k, hk⟩ := ord_ex q1 hc3
    have k1 := hk.dvd.mp hc2
    have k2 := hk.dvd.mp hc3
    have hg : Nat.gcd q.1 r = 1 := pq.cop hr
    have k3 : k ∣ 1 := by rw [← hg]; exact Nat.dvd_gcd k2 k1
    have k4 : k = 1 := Nat.dvd_one.mp k3
    have := hk.2.1
    rw [k4, Int.pow_one] at this
    exact (hA q hq).2.2 this

/-! ### is_int -/
theorem sc_is_int : FnScope ["value"] ["value"] (defScope s_is_int) := ⟨rfl, rfl, rfl, by decide +kernel, rfl, by decide +kernel, by decide +kernel⟩
def sp_is_int (K : PySem.W.Frag) : Sp := fun vs H Q _ => ∃ i : Int, vs = [.int i] ∧ Q (.bl true) H
theorem len_is_int {K : PySem.W.Frag} {vs : List V} {H : Hp} {Q : VK} {E : XK} (h : sp_is_int K vs H Q E) : vs.length = ["value"].length := by
  obtain ⟨_, rfl, _⟩ := h
  rfl
def t_is_int (K : PySem.W.Frag) : TS := (tRet (tAndV (tCB (rIsi K) (tCons (tVar 0) (tCons (tC (.ty "int")) tNil))) (tNotV (tCB (rIsi K) (tCons (tVar 0) (tCons (tC (.ty "bool")) tNil))))))
theorem pure_is_int (K : PySem.W.Frag) (vs : List V) (H : Hp) (Q : VK) (E : XK) (h : sp_is_int K vs H Q E) : t_is_int K { nx := fun _ H' => Q .non H', rt := Q } (start ["value"] vs) H := by
  obtain ⟨i, rfl, hq⟩ := h
  unfold t_is_int
  walk_at "z"
  refine isi_int ?_
  walk_at "z"
  refine isi_intB ?_
  walk_at "z"
  exact hq
theorem ok_is_int {P : Program} {w : World} {K : PySem.W.Frag} {mg : Str → Option Value} {base : Heap} (T : Tx K mg) : Okk P w K mg base 1 "is_int" ["value"] (sp_is_int K) := by
  have hf_bool := T.n_bool
  have hf_int := T.n_int
  have hf_isinstance := T.n_isinstance
  obtain ⟨fd, F⟩ := T.f_is_int
  refine ⟨fd, F.ok sc_is_int (fun vs H Q E h => len_is_int h) (fun cdv A outer s H vs Q E hr h => ⟨t_is_int K, PSs.nox ?_, pure_is_int K vs H Q E h⟩), F.bindsN (fun _ _ _ _ _ _ us hl => match us, hl with | [_], _ => rfl), T.g_is_int, F.kp⟩
  exact (pss_one (ps_ret (pe_and (pe_callB call_isi (by rfl) hf_isinstance (by decide +kernel) (pa_cons (pv 0) (pa_cons (pe_bltn (v := .ty "int") rfl hf_int (by decide +kernel) rfl) pa_nil))) (pe_one (pe_not (pe_callB call_isi (by rfl) hf_isinstance (by decide +kernel) (pa_cons (pv 0) (pa_cons (pe_bltn (v := .ty "bool") rfl hf_bool (by decide +kernel) rfl) pa_nil))))))))
/-! ### has_no_parts -/
theorem sc_has_no_parts : FnScope ["number", "divisor"] ["number"] (defScope s_has_no_parts) := ⟨rfl, rfl, rfl, by decide +kernel, rfl, by decide +kernel, by decide +kernel⟩
def sp_has_no_parts (K : PySem.W.Frag) : Sp := fun vs H Q _ => ∃ n : Int, vs = [.int n] ∧ n < 2 ^ 40 ∧ ∀ b : Bool, (b = true ↔ PrimeI n) → Q (.bl b) H
theorem len_has_no_parts {K : PySem.W.Frag} {vs : List V} {H : Hp} {Q : VK} {E : XK} (h : sp_has_no_parts K vs H Q E) : vs.length = ["number"].length := by
  obtain ⟨_, rfl, _⟩ := h
  rfl
def t_has_no_parts_w1_c (K : PySem.W.Frag) : TT := (tAnd (tTest (tOp rLeI (tOp rMulU (tVar 1) (tVar 1)) (tVar 0))) (tTest (tOp rNe (tOp rModU (tVar 0) (tVar 1)) (tC (.int 0)))))
def t_has_no_parts_w1_b (K : PySem.W.Frag) : TS := (tAug 1 (tC (.int 2)) (ipI fun i j => i + j))
def t_has_no_parts (K : PySem.W.Frag) : TS := (tSeq (tIfS (tOr (tTest (tOp rLtI (tVar 0) (tC (.int 4)))) (tTest (tOp rEq (tOp rModU (tVar 0) (tC (.int 2))) (tC (.int 0))))) (tRet (tInT false (tVar 0) (tCons (tC (.int 2)) (tCons (tC (.int 3)) tNil)))) tNext)
  (tSeq (tAsg (tC (.int 3)) (gName 1))
  (tSeq (tWhile (t_has_no_parts_w1_c K) (t_has_no_parts_w1_b K))
  (tRet (tOp rGtI (tOp rMulU (tVar 1) (tVar 1)) (tVar 0))))))
theorem pure_has_no_parts (K : PySem.W.Frag) (vs : List V) (H : Hp) (Q : VK) (E : XK) (h : sp_has_no_parts K vs H Q E) : t_has_no_parts K { nx := fun _ H' => Q .non H', rt := Q } (start ["number", "divisor"] vs) H := by
  obtain ⟨n, rfl, hn2, hq⟩ := h
  unfold t_has_no_parts
  walk_at "z"
  have small : (n < 4 ∨ n % 2 = 0) → Q (.bl (inV (.int n) [.int 2, .int 3])) H := fun hs => by
    refine hq _ ?_
    rw [in_twothree, decide_eq_true_eq]
    constructor
    · rintro (rfl | rfl)
      · exact prime_two
      · exact prime_three
    · rintro ⟨h1, h2⟩
      by_cases e : n % 2 = 0
      · by_cases e2 : n = 2
        · exact .inl e2
        · exact absurd (show (2 : Int) ∣ n by omega) (h2 2 (by omega) (by omega))
      · omega
  by_cases h4 : n < 4
  · rw [if_pos h4]
    exact ⟨by decide, rfl, rfl, small (.inl h4)⟩
  rw [if_neg h4]
  walk_at "z"
  refine ⟨by decide, ?_⟩
  by_cases h2 : n % 2 = 0
  · rw [if_pos h2]
    exact ⟨by decide, rfl, rfl, small (.inr h2)⟩
  rw [if_neg h2]
  refine while_of (fun m σ H' => ∃ d : Int, σ = [some (.int n), some (.int d)] ∧ H' = H ∧ 3 ≤ d ∧ d % 2 = 1 ∧ (∀ k, 2 ≤ k → k < d → ¬ k ∣ n) ∧ d < 2 ^ 41 ∧ m = (2 ^ 42 - d).toNat) (2 ^ 42 - 3) ⟨3, rfl, rfl, by omega, by omega, fun k h1 h3 => by
      obtain rfl : k = 2 := by omega
      omega, by omega, by decide⟩ ?_
  rintro m σ H' ⟨d, rfl, rfl, hd, hodd, hk, hd2, rfl⟩ N hN hN2
  unfold t_has_no_parts_w1_c t_has_no_parts_w1_b
  walk_at "z"
  refine ⟨mulS (by omega), ?_⟩
  by_cases hdd : d * d ≤ n
  · rw [if_pos hdd]
    walk_at "z"
    refine ⟨by omega, ?_⟩
    have hdn : d < n := by
      have := Int.mul_le_mul_of_nonneg_right (show (3:Int) ≤ d by omega) (show (0:Int) ≤ d by omega)
      omega
    by_cases hm : n % d = 0
    · rw [if_neg (by omega)]
      walk_at "z"
      refine ⟨mulS (by omega), hq _ ⟨fun h => ?_, fun h => absurd (Int.dvd_of_emod_eq_zero hm) (h.2 d (by omega) hdn)⟩⟩
      rw [decide_eq_true_eq] at h
      omega
    · rw [if_pos hm]
      refine ⟨N, hN2, ?_⟩
      walk_at "z"
      have hlt : d < 2 ^ 20 + 2 := by
        by_cases q : d < 2 ^ 20 + 2
        · exact q
        · have := Int.mul_le_mul (show (2 ^ 20 + 2 : Int) ≤ d by omega) (show (2 ^ 20 + 2 : Int) ≤ d by omega) (by omega) (by omega)
          omega
      refine hN _ _ _ (by omega) ⟨d + 2, rfl, rfl, by omega, by omega, fun k h1 h3 => ?_, by omega, rfl⟩
      by_cases e1 : k < d
      · exact hk k h1 e1
      · by_cases e2 : k = d
        · subst e2
          intro hx
          exact hm (Int.emod_eq_zero_of_dvd hx)
        · obtain rfl : k = d + 1 := by omega
          intro hx
          have : (2 : Int) ∣ n := Int.dvd_trans (by omega) hx
          omega
  · rw [if_neg hdd]
    walk_at "z"
    refine ⟨mulS (by omega), hq _ ⟨fun _ => ?_, fun _ => decide_eq_true (by omega)⟩⟩
    have := least_self (by omega) hk (by omega) (by omega)
    exact ⟨this.1, this.2.2⟩

theorem ok_has_no_parts {P : Program} {w : World} {K : PySem.W.Frag} {mg : Str → Option Value} {base : Heap} (T : Tx K mg) : Okk P w K mg base 1 "has_no_parts" ["number"] (sp_has_no_parts K) := by
  obtain ⟨fd, F⟩ := T.f_has_no_parts
  refine ⟨fd, F.ok sc_has_no_parts (fun vs H Q E h => len_has_no_parts h) (fun cdv A outer s H vs Q E hr h => ⟨t_has_no_parts K, PSs.nox ?_, pure_has_no_parts K vs H Q E h⟩), F.bindsN (fun _ _ _ _ _ _ us hl => match us, hl with | [_], _ => rfl), T.g_has_no_parts, F.kp⟩
  exact (pss_cons (ps_if (PW.pt (pw_or (pt_cmpR op_lt (pv 0) pe_int (nomark _)) (pw_or1 (pt_cmpR op_eq (pe_op op_mod (pv 0) pe_int) pe_int (nomark _))))) (pss_one (ps_ret (pe_inT (pv 0) (pa_cons pe_int (pa_cons pe_int pa_nil)) rfl))) pss_nil)
      (pss_cons (ps_set (i := 1) sc_has_no_parts.nd rfl (by first | exact Or.inl rfl | exact Or.inr rfl) pe_int)
      (pss_cons (ps_while PassesOwn.never (PW.pt (pw_and (pt_cmpR op_le (pe_op op_mulU (pv 1) (pv 1)) (pv 0) (nomark _)) (pw_and1 (pt_cmpR op_ne (pe_op op_mod (pv 0) (pv 1)) pe_int (nomark _))))) (pss_one (ps_aug (i := 1) sc_has_no_parts.nd rfl (by first | exact Or.inl rfl | exact Or.inr rfl) pe_int ip_add)))
      (pss_one (ps_ret (pe_cmpR op_gt (pe_op op_mulU (pv 1) (pv 1)) (pv 0) (nomark _)))))))
/-! ### power_modulo -/
theorem sc_power_modulo : FnScope ["number", "exponent", "modulus", "result", "base"] ["number", "exponent", "modulus"] (defScope s_power_modulo) := ⟨rfl, rfl, rfl, by decide +kernel, rfl, by decide +kernel, by decide +kernel⟩
def sp_power_modulo (K : PySem.W.Frag) : Sp := fun vs H Q _ => ∃ b e m : Int, vs = [.int b, .int e, .int m] ∧ 0 ≤ e ∧ 0 < m ∧ m < 2 ^ 60 ∧ Q (.int (b ^ e.toNat % m)) H
theorem len_power_modulo {K : PySem.W.Frag} {vs : List V} {H : Hp} {Q : VK} {E : XK} (h : sp_power_modulo K vs H Q E) : vs.length = ["number", "exponent", "modulus"].length := by
  obtain ⟨_, _, _, rfl, _⟩ := h
  rfl
def t_power_modulo_w1_c (K : PySem.W.Frag) : TT := (tTest (tOp rGtI (tVar 1) (tC (.int 0))))
def t_power_modulo_w1_b (K : PySem.W.Frag) : TS := (tSeq (tIfS (tTest (tOp rEq (tOp rModU (tVar 1) (tC (.int 2))) (tC (.int 1)))) (tAsg (tOp rModU (tOp rMulU (tVar 3) (tVar 4)) (tVar 2)) (gName 3)) tNext)
  (tSeq (tAsg (tOp rModU (tOp rMulU (tVar 4) (tVar 4)) (tVar 2)) (gName 4))
  (tAsg (tOp rDivU (tVar 1) (tC (.int 2))) (gName 1))))
def t_power_modulo (K : PySem.W.Frag) : TS := (tSeq (tAsg (tOp rModU (tC (.int 1)) (tVar 2)) (gName 3))
  (tSeq (tAsg (tOp rModU (tVar 0) (tVar 2)) (gName 4))
  (tSeq (tWhile (t_power_modulo_w1_c K) (t_power_modulo_w1_b K))
  (tRet (tVar 3)))))
theorem pm_start {b m : Int} {e : Nat} : 1 % m * (b % m) ^ e % m = b ^ e % m := by
  rw [Int.mul_emod, pow_emod, emod_emod', ← Int.mul_emod, Int.one_mul]
theorem pm_even {r x m : Int} {e : Nat} (h : e % 2 = 0) : r * (x * x % m) ^ (e / 2) % m = r * x ^ e % m := by
  have e2 : x ^ e = (x * x) ^ (e / 2) := by rw [← pow_two_mul]; congr 1; omega
  rw [Int.mul_emod, pow_emod, ← Int.mul_emod, e2]
theorem pm_odd {r x m : Int} {e : Nat} (h : e % 2 = 1) : (r * x % m) * (x * x % m) ^ (e / 2) % m = r * x ^ e % m := by
  have e2 : x ^ e = x * (x * x) ^ (e / 2) := by
    rw [← pow_two_mul, Int.mul_comm, ← Int.pow_succ]; congr 1; omega
  rw [Int.mul_emod, pow_emod, emod_emod', ← Int.mul_emod, e2, Int.mul_assoc]
theorem half_toNat {e : Int} (h : 0 ≤ e) : (e / 2).toNat = e.toNat / 2 := by omega
theorem pure_power_modulo (K : PySem.W.Frag) (vs : List V) (H : Hp) (Q : VK) (E : XK) (h : sp_power_modulo K vs H Q E) : t_power_modulo K { nx := fun _ H' => Q .non H', rt := Q } (start ["number", "exponent", "modulus", "result", "base"] vs) H := by
  obtain ⟨b, e, m, rfl, he, hm, hm2, hq⟩ := h
  unfold t_power_modulo
  walk_at "z"
  refine ⟨hm, hm, ?_⟩
  refine while_of (fun μ σ H' => ∃ r x ee y : Int, σ = [some (.int y), some (.int ee), some (.int m), some (.int r), some (.int x)] ∧ H' = H ∧ 0 ≤ ee ∧ μ = ee.toNat ∧ 0 ≤ r ∧ r < m ∧ 0 ≤ x ∧ x < m ∧ r * x ^ ee.toNat % m = b ^ e.toNat % m) e.toNat ⟨1 % m, b % m, e, b, rfl, rfl, he, rfl, Int.emod_nonneg _ (by omega), Int.emod_lt_of_pos _ hm, Int.emod_nonneg _ (by omega), Int.emod_lt_of_pos _ hm, pm_start⟩ ?_
  rintro μ σ H' ⟨r, x, ee, y, rfl, rfl, hee, rfl, hr0, hr1, hx0, hx1, hinv⟩ N hN hN2
  unfold t_power_modulo_w1_c t_power_modulo_w1_b
  walk_at "z"
  by_cases h0 : 0 < ee
  · rw [if_pos h0]
    refine ⟨N, hN2, ?_⟩
    walk_at "z"
    refine ⟨by omega, ?_⟩
    have xx : 0 ≤ x * x % m ∧ x * x % m < m := ⟨Int.emod_nonneg _ (by omega), Int.emod_lt_of_pos _ hm⟩
    by_cases h1 : ee % 2 = 1
    · rw [if_pos h1]
      refine ⟨mulS (by omega), hm, mulS (by omega), hm, divS (by omega) (by omega), hN _ _ _ (by omega) ⟨_, _, _, _, rfl, rfl, by omega, rfl, Int.emod_nonneg _ (by omega), Int.emod_lt_of_pos _ hm, xx.1, xx.2, ?_⟩⟩
      rw [half_toNat hee, pm_odd (by omega), hinv]
    · rw [if_neg h1]
      refine ⟨mulS (by omega), hm, divS (by omega) (by omega), hN _ _ _ (by omega) ⟨_, _, _, _, rfl, rfl, by omega, rfl, hr0, hr1, xx.1, xx.2, ?_⟩⟩
      rw [half_toNat hee, pm_even (by omega), hinv]
  · rw [if_neg h0]
    obtain rfl : ee = 0 := by omega
    have e0 : r * x ^ (0 : Int).toNat % m = r := by
      show r * x ^ 0 % m = r
      rw [Int.pow_zero, Int.mul_one, emod_small hr0 hr1]
    rw [← hinv, e0] at hq
    exact hq
theorem ok_power_modulo {P : Program} {w : World} {K : PySem.W.Frag} {mg : Str → Option Value} {base : Heap} (T : Tx K mg) : Okk P w K mg base 1 "power_modulo" ["number", "exponent", "modulus"] (sp_power_modulo K) := by
  obtain ⟨fd, F⟩ := T.f_power_modulo
  refine ⟨fd, F.ok sc_power_modulo (fun vs H Q E h => len_power_modulo h) (fun cdv A outer s H vs Q E hr h => ⟨t_power_modulo K, PSs.nox ?_, pure_power_modulo K vs H Q E h⟩), F.bindsN (fun _ _ _ _ _ _ us hl => match us, hl with | [_, _, _], _ => rfl), T.g_power_modulo, F.kp⟩
  exact (pss_cons (ps_set (i := 3) sc_power_modulo.nd rfl (by first | exact Or.inl rfl | exact Or.inr rfl) (pe_op op_mod pe_int (pv 2)))
      (pss_cons (ps_set (i := 4) sc_power_modulo.nd rfl (by first | exact Or.inl rfl | exact Or.inr rfl) (pe_op op_mod (pv 0) (pv 2)))
      (pss_cons (ps_while PassesOwn.never (pt_cmpR op_gt (pv 1) pe_int (nomark _)) (pss_cons (ps_if (pt_cmpR op_eq (pe_op op_mod (pv 1) pe_int) pe_int (nomark _)) (pss_one (ps_set (i := 3) sc_power_modulo.nd rfl (by first | exact Or.inl rfl | exact Or.inr rfl) (pe_op op_mod (pe_op op_mulU (pv 3) (pv 4)) (pv 2)))) pss_nil)
      (pss_cons (ps_set (i := 4) sc_power_modulo.nd rfl (by first | exact Or.inl rfl | exact Or.inr rfl) (pe_op op_mod (pe_op op_mulU (pv 4) (pv 4)) (pv 2)))
      (pss_one (ps_set (i := 1) sc_power_modulo.nd rfl (by first | exact Or.inl rfl | exact Or.inr rfl) (pe_op op_fdivW (pv 1) pe_int))))))
      (pss_one (ps_ret (pv 3))))))
/-! ### least_divisor -/
theorem sc_least_divisor : FnScope ["number", "divisor"] ["number"] (defScope s_least_divisor) := ⟨rfl, rfl, rfl, by decide +kernel, rfl, by decide +kernel, by decide +kernel⟩
def sp_least_divisor (K : PySem.W.Frag) : Sp := fun vs H Q _ => ∃ n : Int, vs = [.int n] ∧ 2 ≤ n ∧ n < 2 ^ 40 ∧ ∀ d, Least d n → d ≤ n → Q (.int d) H
theorem len_least_divisor {K : PySem.W.Frag} {vs : List V} {H : Hp} {Q : VK} {E : XK} (h : sp_least_divisor K vs H Q E) : vs.length = ["number"].length := by
  obtain ⟨_, rfl, _⟩ := h
  rfl
def t_least_divisor_w1_c (K : PySem.W.Frag) : TT := (tTest (tOp rLeI (tOp rMulU (tVar 1) (tVar 1)) (tVar 0)))
def t_least_divisor_w1_b (K : PySem.W.Frag) : TS := (tSeq (tIfS (tTest (tOp rEq (tOp rModU (tVar 0) (tVar 1)) (tC (.int 0)))) (tRet (tVar 1)) tNext)
  (tAug 1 (tC (.int 2)) (ipI fun i j => i + j)))
def t_least_divisor (K : PySem.W.Frag) : TS := (tSeq (tIfS (tTest (tOp rEq (tOp rModU (tVar 0) (tC (.int 2))) (tC (.int 0)))) (tRet (tC (.int 2))) tNext)
  (tSeq (tAsg (tC (.int 3)) (gName 1))
  (tSeq (tWhile (t_least_divisor_w1_c K) (t_least_divisor_w1_b K))
  (tRet (tVar 0)))))
theorem pure_least_divisor (K : PySem.W.Frag) (vs : List V) (H : Hp) (Q : VK) (E : XK) (h : sp_least_divisor K vs H Q E) : t_least_divisor K { nx := fun _ H' => Q .non H', rt := Q } (start ["number", "divisor"] vs) H := by
  obtain ⟨n, rfl, hn, hn2, hq⟩ := h
  unfold t_least_divisor
  walk_at "z"
  refine ⟨by decide, ?_⟩
  by_cases h2 : n % 2 = 0
  · rw [if_pos h2]
    exact hq 2 (least_two h2) (by omega)
  · rw [if_neg h2]
    refine while_of (fun m σ H' => ∃ d : Int, σ = [some (.int n), some (.int d)] ∧ H' = H ∧ 3 ≤ d ∧ d % 2 = 1 ∧ (∀ k, 2 ≤ k → k < d → ¬ k ∣ n) ∧ d < 2 ^ 41 ∧ m = (2 ^ 42 - d).toNat) (2 ^ 42 - 3) ⟨3, rfl, rfl, by omega, by omega, fun k h1 h3 => by
      obtain rfl : k = 2 := by omega
      omega, by omega, by decide⟩ ?_
    rintro m σ H' ⟨d, rfl, rfl, hd, hodd, hk, hd2, rfl⟩ N hN hN2
    unfold t_least_divisor_w1_c t_least_divisor_w1_b
    walk_at "z"
    refine ⟨mulS (by omega), ?_⟩
    by_cases hdd : d * d ≤ n
    · rw [if_pos hdd]
      refine ⟨N, hN2, ?_⟩
      walk_at "z"
      refine ⟨by omega, ?_⟩
      by_cases hm : n % d = 0
      · rw [if_pos hm]
        have hdn : d ≤ n := by
          have := Int.mul_le_mul_of_nonneg_right (show (1:Int) ≤ d by omega) (show (0:Int) ≤ d by omega)
          omega
        exact hq d ⟨by omega, Int.dvd_of_emod_eq_zero hm, hk⟩ hdn
      · rw [if_neg hm]
        have hlt : d < 2 ^ 20 + 2 := by
          by_cases q : d < 2 ^ 20 + 2
          · exact q
          · have := Int.mul_le_mul (show (2 ^ 20 + 2 : Int) ≤ d by omega) (show (2 ^ 20 + 2 : Int) ≤ d by omega) (by omega) (by omega)
            omega
        refine hN _ _ _ (by omega) ⟨d + 2, rfl, rfl, by omega, by omega, fun k h1 h3 => ?_, by omega, rfl⟩
        by_cases e1 : k < d
        · exact hk k h1 e1
        · by_cases e2 : k = d
          · subst e2
            intro hx
            exact hm (Int.emod_eq_zero_of_dvd hx)
          · obtain rfl : k = d + 1 := by omega
            intro hx
            have : (2 : Int) ∣ n := Int.dvd_trans (by omega) hx
            omega
    · rw [if_neg hdd]
      exact hq n (least_self hn hk (by omega) (by omega)) (Int.le_refl n)
theorem ok_least_divisor {P : Program} {w : World} {K : PySem.W.Frag} {mg : Str → Option Value} {base : Heap} (T : Tx K mg) : Okk P w K mg base 1 "least_divisor" ["number"] (sp_least_divisor K) := by
  obtain ⟨fd, F⟩ := T.f_least_divisor
  refine ⟨fd, F.ok sc_least_divisor (fun vs H Q E h => len_least_divisor h) (fun cdv A outer s H vs Q E hr h => ⟨t_least_divisor K, PSs.nox ?_, pure_least_divisor K vs H Q E h⟩), F.bindsN (fun _ _ _ _ _ _ us hl => match us, hl with | [_], _ => rfl), T.g_least_divisor, F.kp⟩
  exact (pss_cons (ps_if (pt_cmpR op_eq (pe_op op_mod (pv 0) pe_int) pe_int (nomark _)) (pss_one (ps_ret pe_int)) pss_nil)
      (pss_cons (ps_set (i := 1) sc_least_divisor.nd rfl (by first | exact Or.inl rfl | exact Or.inr rfl) pe_int)
      (pss_cons (ps_while PassesOwn.never (pt_cmpR op_le (pe_op op_mulU (pv 1) (pv 1)) (pv 0) (nomark _)) (pss_cons (ps_if (pt_cmpR op_eq (pe_op op_mod (pv 0) (pv 1)) pe_int (nomark _)) (pss_one (ps_ret (pv 1))) pss_nil)
      (pss_one (ps_aug (i := 1) sc_least_divisor.nd rfl (by first | exact Or.inl rfl | exact Or.inr rfl) pe_int ip_add))))
      (pss_one (ps_ret (pv 0))))))
/-! ### prime_powers -/
theorem sc_prime_powers : FnScope ["number", "pairs", "left", "divisor", "often"] ["number"] (defScope s_prime_powers) := ⟨rfl, rfl, rfl, by decide +kernel, rfl, by decide +kernel, by decide +kernel⟩
def sp_prime_powers (K : PySem.W.Frag) : Sp := fun vs H Q _ => ∃ n : Nat, vs = [.int (n : Int)] ∧ 1 ≤ n ∧ n < 2 ^ 40 ∧ ∀ T xs H', Same H H' → H' T = some (.tup xs) → PR H' xs (ppN n) → Q (.ref T) H'
theorem len_prime_powers {K : PySem.W.Frag} {vs : List V} {H : Hp} {Q : VK} {E : XK} (h : sp_prime_powers K vs H Q E) : vs.length = ["number"].length := by
  obtain ⟨_, rfl, _⟩ := h
  rfl
def t_prime_powers_w1_c (K : PySem.W.Frag) : TT := (tTest (tOp rEq (tOp rModU (tVar 2) (tVar 3)) (tC (.int 0))))
def t_prime_powers_w1_b (K : PySem.W.Frag) : TS := (tSeq (tAsg (tOp rDivU (tVar 2) (tVar 3)) (gName 2))
  (tAug 4 (tC (.int 1)) (ipI fun i j => i + j)))
def t_prime_powers_w2_c (K : PySem.W.Frag) : TT := (tTest (tOp rLeI (tOp rMulU (tVar 3) (tVar 3)) (tVar 2)))
def t_prime_powers_w2_b (K : PySem.W.Frag) : TS := (tSeq (tAsg (tC (.int 0)) (gName 4))
  (tSeq (tWhile (t_prime_powers_w1_c K) (t_prime_powers_w1_b K))
  (tSeq (tIfS (tTest (tOp rGtI (tVar 4) (tC (.int 0)))) (tDrop (tBM K "list" rAppend (tVar 1) (tCons (tTup (tCons (tVar 3) (tCons (tVar 4) tNil))) tNil))) tNext)
  (tAug 3 (tIf (tTest (tOp rEq (tVar 3) (tC (.int 2)))) (tC (.int 1)) (tC (.int 2))) (ipI fun i j => i + j)))))
def t_prime_powers (K : PySem.W.Frag) : TS := (tSeq (tAsg (tLst tNil) (gName 1))
  (tSeq (tAsg (tVar 0) (gName 2))
  (tSeq (tAsg (tC (.int 2)) (gName 3))
  (tSeq (tWhile (t_prime_powers_w2_c K) (t_prime_powers_w2_b K))
  (tSeq (tIfS (tTest (tOp rGtI (tVar 2) (tC (.int 1)))) (tDrop (tBM K "list" rAppend (tVar 1) (tCons (tTup (tCons (tVar 2) (tCons (tC (.int 1)) tNil))) tNil))) tNext)
  (tRet (tCB (rTupOf K) (tCons (tVar 1) tNil))))))))
theorem sq_lt {d l : Nat} (h : d * d ≤ l) (h2 : l < 2 ^ 40) : d < 2 ^ 20 := by
  by_cases q : d < 2 ^ 20
  · exact q
  · have := Nat.mul_le_mul (show 2 ^ 20 ≤ d by omega) (show 2 ^ 20 ≤ d by omega)
    omega
theorem small_size {n : Nat} (h : n < 2 ^ 22) : n < sizeLine := Nat.lt_of_lt_of_le h (by decide)
theorem pure_prime_powers (K : PySem.W.Frag) (vs : List V) (H : Hp) (Q : VK) (E : XK) (h : sp_prime_powers K vs H Q E) : t_prime_powers K { nx := fun _ H' => Q .non H', rt := Q } (start ["number", "pairs", "left", "divisor", "often"] vs) H := by
  obtain ⟨n, rfl, hn, hn2, hq⟩ := h
  unfold t_prime_powers
  walk_at "z"
  refine ⟨Nat.zero_le _, fun P hP => ?_⟩
  refine while_of (fun μ σ H' => ∃ (xs : List V) (acc : List (Nat × Nat)) (l d f : Nat) (o : Option V), σ = [some (.int (n : Int)), some (.ref P), some (.int (l : Int)), some (.int (d : Int)), o] ∧ Same H H' ∧ H' P = some (.lst xs) ∧ PR H' xs acc ∧ 2 ≤ d ∧ 1 ≤ l ∧ l < 2 ^ 40 ∧ d < 2 ^ 20 + 3 ∧ acc.length ≤ d ∧ ppL f d l acc = ppN n ∧ l + 2 ≤ f + d ∧ μ = f) n
    ⟨[], [], n, 2, n, none, rfl, same_upd hP, upd_same, .nil, by omega, hn, hn2, by omega, by simp, rfl, by omega, rfl⟩ ?_
  rintro μ σ H' ⟨xs, acc, l, d, f, o, rfl, hS, hHP, hPR, hd, hl, hl2, hd3, hacc, hpp, hf, rfl⟩ N hN hN2
  unfold t_prime_powers_w2_c t_prime_powers_w2_b
  walk_at "z"
  refine ⟨mulS (by omega), ?_⟩
  have hlen : xs.length < sizeLine := by rw [hPR.len]; exact small_size (by omega)
  by_cases hdd : d * d ≤ l
  · rw [if_pos (by exact_mod_cast hdd)]
    refine ⟨N, hN2, ?_⟩
    walk_at "z"
    have hd20 := sq_lt hdd hl2
    refine while_of (fun μ σ H2 => ∃ (l' o' f' : Nat), σ = [some (.int (n : Int)), some (.ref P), some (.int (l' : Int)), some (.int (d : Int)), some (.int (o' : Int))] ∧ H2 = H' ∧ 1 ≤ l' ∧ l' ≤ l ∧ stripN f' d l' o' = stripN l d l 0 ∧ l' ≤ f' ∧ l' = μ) l
      ⟨l, 0, l, rfl, rfl, hl, Nat.le_refl _, rfl, Nat.le_refl _, rfl⟩ ?_
    rintro μ2 σ2 H2 ⟨l', o', f', rfl, rfl, hl1, hll, hst, hf', rfl⟩ N2 hN3 hN4
    unfold t_prime_powers_w1_c t_prime_powers_w1_b
    walk_at "z"
    refine ⟨by omega, ?_⟩
    obtain ⟨f2, rfl⟩ : ∃ f2, f' = f2 + 1 := ⟨f' - 1, by omega⟩
    by_cases hm : l' % d = 0
    · rw [if_pos (by exact_mod_cast hm)]
      refine ⟨N2, hN4, ?_⟩
      walk_at "z"
      have hdl : d ≤ l' := Nat.le_of_dvd hl1 (Nat.dvd_of_mod_eq_zero hm)
      have h3 : l' / d < l' := Nat.div_lt_self hl1 hd
      have h4 : 1 ≤ l' / d := Nat.div_pos hdl (by omega)
      refine ⟨divS (by omega) (by omega), hN3 _ _ _ h3 ⟨l' / d, o' + 1, f2, by rw [Int.natCast_ediv]; rfl, rfl, h4, by omega, ?_, by omega, rfl⟩⟩
      rw [← hst]
      conv => rhs; unfold stripN
      rw [if_pos hm]
    · rw [if_neg (by exact_mod_cast hm)]
      have hst2 : stripN l d l 0 = (l', o') := by
        rw [← hst]; unfold stripN; rw [if_neg hm]
      have hdl2 : d ≤ d * d := Nat.le_mul_of_pos_right d (by omega)
      obtain ⟨g, rfl⟩ : ∃ g, μ = g + 1 := ⟨μ - 1, by omega⟩
      have hpp2 : ppL g (if d = 2 then d + 1 else d + 2) l' (if 0 < o' then acc ++ [(d, o')] else acc) = ppN n := by
        rw [← hpp]
        conv => rhs; unfold ppL
        rw [if_pos hdd, hst2]
      -- what the turn leaves, for either step of the divisor
      have fin : ∀ (acc2 : List (Nat × Nat)) (xs2 : List V) (H3 : Hp), Same H H3 → H3 P = some (.lst xs2) → PR H3 xs2 acc2 → acc2.length ≤ d + 1 → ppL g (if d = 2 then d + 1 else d + 2) l' acc2 = ppN n →
          if (d : Int) = 2 then N [some (.int (n : Int)), some (.ref P), some (.int (l' : Int)), some (.int ((d : Int) + 1)), some (.int (o' : Int))] H3 else N [some (.int (n : Int)), some (.ref P), some (.int (l' : Int)), some (.int ((d : Int) + 2)), some (.int (o' : Int))] H3 := by
        intro acc2 xs2 H3 s3 p3 r3 l3 e3
        by_cases d2 : d = 2
        · rw [if_pos d2] at e3
          rw [if_pos (by omega)]
          exact hN _ _ _ (by omega) ⟨xs2, acc2, l', d + 1, g, _, rfl, s3, p3, r3, by omega, hl1, by omega, by omega, by omega, e3, by omega, rfl⟩
        · rw [if_neg d2] at e3
          rw [if_neg (by omega)]
          exact hN _ _ _ (by omega) ⟨xs2, acc2, l', d + 2, g, _, rfl, s3, p3, r3, by omega, hl1, by omega, by omega, by omega, e3, by omega, rfl⟩
      by_cases ho : 0 < o'
      · rw [if_pos (by omega)]
        rw [if_pos ho] at hpp2
        refine ⟨tyL hHP, by decide, fun t ht => ?_⟩
        have htP : P ≠ t := ne_of_none hHP ht
        have hP2 : upd H2 t (.tup [.int (d : Int), .int (o' : Int)]) P = some (.lst xs) := by rw [upd_ne htP]; exact hHP
        refine ⟨P, xs, _, rfl, rfl, hP2, hlen, ?_⟩
        walk_at "z"
        refine fin _ _ _ (same_mut (same_new hS ht) hP) upd_same ?_ (by simp; omega) hpp2
        refine Paired.snoc (hPR.mono fun a ys q => ?_) ⟨t, rfl, by rw [upd_ne (Ne.symm htP), upd_same]⟩
        have q1 : a ≠ P := by rintro rfl; rw [hHP] at q; cases q
        rw [upd_ne q1, upd_ne (ne_of_none q ht)]
        exact q
      · rw [if_neg (by omega)]
        rw [if_neg ho] at hpp2
        exact fin _ _ _ hS hHP hPR (by omega) hpp2
  · rw [if_neg (by exact_mod_cast hdd)]
    have hend : endN l acc = ppN n := by
      rw [← hpp]
      cases μ with
      | zero => rfl
      | succ g => unfold ppL; rw [if_neg hdd]
    by_cases h1 : 1 < l
    · rw [if_pos (by omega)]
      refine ⟨tyL hHP, by decide, fun t ht => ?_⟩
      have htP : P ≠ t := ne_of_none hHP ht
      have hP2 : upd H' t (.tup [.int (l : Int), .int 1]) P = some (.lst xs) := by rw [upd_ne htP]; exact hHP
      refine ⟨P, xs, _, rfl, rfl, hP2, hlen, ?_⟩
      walk_at "z"
      have hs2 := same_mut (o := .lst (xs ++ [V.ref t])) (same_new (o := .tup [.int (l : Int), .int 1]) hS ht) hP
      refine ⟨P, _, rfl, .inl ⟨sqL_of upd_same, fun T hT => ?_⟩⟩
      refine hq T _ _ (same_new hs2 hT) upd_same ?_
      rw [← hend]
      unfold endN
      rw [if_pos h1]
      have q0 : ∀ a ys, H' a = some (.tup ys) → upd (upd (upd H' t (.tup [.int (l : Int), .int 1])) P (.lst (xs ++ [V.ref t]))) T (.tup (xs ++ [V.ref t])) a = some (.tup ys) := fun a ys q => by
        have q1 : a ≠ P := by rintro rfl; rw [hHP] at q; cases q
        have q2 : upd (upd H' t (.tup [.int (l : Int), .int 1])) P (.lst (xs ++ [V.ref t])) a = some (.tup ys) := by rw [upd_ne q1, upd_ne (ne_of_none q ht)]; exact q
        rw [upd_ne (ne_of_none q2 hT)]
        exact q2
      refine Paired.snoc (hPR.mono q0) ⟨t, rfl, ?_⟩
      have q2 : upd (upd H' t (.tup [.int (l : Int), .int 1])) P (.lst (xs ++ [V.ref t])) t = some (.tup [.int (l : Int), .int 1]) := by rw [upd_ne (Ne.symm htP), upd_same]
      rw [upd_ne (ne_of_none q2 hT)]
      exact q2
    · rw [if_neg (by omega)]
      walk_at "z"
      refine ⟨P, _, rfl, .inl ⟨sqL_of hHP, fun T hT => ?_⟩⟩
      refine hq T _ _ (same_new hS hT) upd_same ?_
      rw [← hend]
      unfold endN
      rw [if_neg h1]
      exact hPR.mono fun a ys q => by rw [upd_ne (ne_of_none q hT)]; exact q
theorem ok_prime_powers {P : Program} {w : World} {K : PySem.W.Frag} {mg : Str → Option Value} {base : Heap} (T : Tx K mg) : Okk P w K mg base 1 "prime_powers" ["number"] (sp_prime_powers K) := by
  have hf_tuple := T.n_tuple
  obtain ⟨fd, F⟩ := T.f_prime_powers
  refine ⟨fd, F.ok sc_prime_powers (fun vs H Q E h => len_prime_powers h) (fun cdv A outer s H vs Q E hr h => ⟨t_prime_powers K, PSs.nox ?_, pure_prime_powers K vs H Q E h⟩), F.bindsN (fun _ _ _ _ _ _ us hl => match us, hl with | [_], _ => rfl), T.g_prime_powers, F.kp⟩
  exact (pss_cons (ps_set (i := 1) sc_prime_powers.nd rfl (by first | exact Or.inl rfl | exact Or.inr rfl) (pe_lst pa_nil))
      (pss_cons (ps_set (i := 2) sc_prime_powers.nd rfl (by first | exact Or.inl rfl | exact Or.inr rfl) (pv 0))
      (pss_cons (ps_set (i := 3) sc_prime_powers.nd rfl (by first | exact Or.inl rfl | exact Or.inr rfl) pe_int)
      (pss_cons (ps_while PassesOwn.never (pt_cmpR op_le (pe_op op_mulU (pv 3) (pv 3)) (pv 2) (nomark _)) (pss_cons (ps_set (i := 4) sc_prime_powers.nd rfl (by first | exact Or.inl rfl | exact Or.inr rfl) pe_int)
      (pss_cons (ps_while PassesOwn.never (pt_cmpR op_eq (pe_op op_mod (pv 2) (pv 3)) pe_int (nomark _)) (pss_cons (ps_set (i := 2) sc_prime_powers.nd rfl (by first | exact Or.inl rfl | exact Or.inr rfl) (pe_op op_fdivW (pv 2) (pv 3)))
      (pss_one (ps_aug (i := 4) sc_prime_powers.nd rfl (by first | exact Or.inl rfl | exact Or.inr rfl) pe_int ip_add))))
      (pss_cons (ps_if (pt_cmpR op_gt (pv 4) pe_int (nomark _)) (pss_one (ps_expr (pe_bm PySem.F.plainAttrs_list PySem.F.slot_list_append PySem.F.type_list_append mt_append (pv 1) (pa_cons (pe_tup (pa_cons (pv 3) (pa_cons (pv 4) pa_nil))) pa_nil)))) pss_nil)
      (pss_one (ps_aug (i := 3) sc_prime_powers.nd rfl (by first | exact Or.inl rfl | exact Or.inr rfl) (pe_ifExp (pt_cmpR op_eq (pv 3) pe_int (nomark _)) pe_int pe_int) ip_add))))))
      (pss_cons (ps_if (pt_cmpR op_gt (pv 2) pe_int (nomark _)) (pss_one (ps_expr (pe_bm PySem.F.plainAttrs_list PySem.F.slot_list_append PySem.F.type_list_append mt_append (pv 1) (pa_cons (pe_tup (pa_cons (pv 2) (pa_cons pe_int pa_nil))) pa_nil)))) pss_nil)
      (pss_one (ps_ret (pe_callTy call_tuple_of (by rfl) hf_tuple (by decide +kernel) (pa_cons (pv 1) pa_nil)))))))))
/-! ### check_between -/
theorem sc_check_between : FnScope ["number", "low", "high"] ["number", "low", "high"] (defScope s_check_between) := ⟨rfl, rfl, rfl, by decide +kernel, rfl, by decide +kernel, by decide +kernel⟩
def sp_check_between (K : PySem.W.Frag) : Sp := fun vs H Q _ => ∃ n lo hi : Int, vs = [.int n, .int lo, .int hi] ∧ lo ≤ n ∧ n ≤ hi ∧ Q .non H
theorem len_check_between {K : PySem.W.Frag} {vs : List V} {H : Hp} {Q : VK} {E : XK} (h : sp_check_between K vs H Q E) : vs.length = ["number", "low", "high"].length := by
  obtain ⟨_, _, _, rfl, _⟩ := h
  rfl
def t_check_between (K : PySem.W.Frag) : TS := (tIfS (tOr (tNot (tB (tCall (sp_is_int K) [] E0 (tCons (tVar 0) tNil)))) (tOr (tTest (tOp rLtI (tVar 0) (tVar 1))) (tTest (tOp rGtI (tVar 0) (tVar 2))))) tNever tNext)
theorem pure_check_between (K : PySem.W.Frag) (vs : List V) (H : Hp) (Q : VK) (E : XK) (h : sp_check_between K vs H Q E) : t_check_between K { nx := fun _ H' => Q .non H', rt := Q } (start ["number", "low", "high"] vs) H := by
  obtain ⟨n, lo, hi, rfl, h1, h2, hq⟩ := h
  unfold t_check_between
  walk_at "z"
  refine ⟨_, rfl, ?_⟩
  walk_at "z"
  rw [if_neg (by omega), if_neg (by omega)]
  exact hq
theorem ok_check_between {P : Program} {w : World} {K : PySem.W.Frag} {mg : Str → Option Value} {base : Heap} (T : Tx K mg) : Okk P w K mg base 2 "check_between" ["number", "low", "high"] (sp_check_between K) := by
  obtain ⟨fd_is_int, F_is_int, b_is_int, g_is_int, k_is_int⟩ := ok_is_int (P := P) (w := w) (base := base) T
  obtain ⟨fd, F⟩ := T.f_check_between
  refine ⟨fd, F.ok sc_check_between (fun vs H Q E h => len_check_between h) (fun cdv A outer s H vs Q E hr h => ⟨t_check_between K, PSs.nox ?_, pure_check_between K vs H Q E h⟩), F.bindsN (fun _ _ _ _ _ _ us hl => match us, hl with | [_, _, _], _ => rfl), T.g_check_between, F.kp⟩
  exact (pss_one (ps_if (PW.pt (pw_or (pt_not (pt_val (pe_call F_is_int (hr.mono (by decide)) rfl g_is_int k_is_int b_is_int .nil pass0 (pa_cons (pv 0) pa_nil)))) (pw_or (pt_cmpR op_lt (pv 0) (pv 1) (nomark _)) (pw_or1 (pt_cmpR op_gt (pv 0) (pv 2) (nomark _)))))) pss_never pss_nil))
/-! ### least_maker_by -/
theorem sc_least_maker_by : FnScope ["prime", "parts", "maker", "part", "_"] ["prime", "parts"] (defScope s_least_maker_by) := ⟨rfl, rfl, rfl, by decide +kernel, rfl, by decide +kernel, by decide +kernel⟩
/-- no power with an exponent (p - 1) / q leaves 1 -/
def MkOk (p : Int) (ps : List (Nat × Nat)) (g : Int) : Prop := ∀ q ∈ ps, g ^ ((p - 1) / (q.1 : Int)).toNat % p ≠ 1
def sp_least_maker_by (K : PySem.W.Frag) : Sp := fun vs H Q _ => ∃ (p : Int) (T : Addr) (xs : List V) (ps : List (Nat × Nat)) (g : Nat), vs = [.int p, .ref T] ∧ 2 ≤ p ∧ p < 2 ^ 40 ∧ SqT K H T xs ∧ PR H xs ps ∧ ps.length < 2 ^ 20 ∧ (∀ q ∈ ps, 2 ≤ q.1 ∧ q.1 < 2 ^ 40) ∧
  1 ≤ g ∧ MkOk p ps g ∧ (∀ k : Nat, 1 ≤ k → k < g → ¬ MkOk p ps k) ∧ ∀ H', Same H H' → Q (.int (g : Int)) H'
theorem len_least_maker_by {K : PySem.W.Frag} {vs : List V} {H : Hp} {Q : VK} {E : XK} (h : sp_least_maker_by K vs H Q E) : vs.length = ["prime", "parts"].length := by
  obtain ⟨_, _, _, _, _, rfl, _⟩ := h
  rfl
def t_least_maker_by_w1_c (K : PySem.W.Frag) : TT := (tTest (tOp (rIn K false) (tC (.int 1)) (tLc (iTup K (tVar 1)) (gTup K 2 (gCons (gName 3) (gCons (gName 4) gNil))) tYes (tCall (sp_power_modulo K) [] E0 (tCons (tVar 2) (tCons (tOp rDivU (tOp rSub (tVar 0) (tC (.int 1))) (tVar 3)) (tCons (tVar 0) tNil)))) [3, 4])))
def t_least_maker_by_w1_b (K : PySem.W.Frag) : TS := (tAug 2 (tC (.int 1)) (ipI fun i j => i + j))
def t_least_maker_by (K : PySem.W.Frag) : TS := (tSeq (tAsg (tC (.int 1)) (gName 2))
  (tSeq (tWhile (t_least_maker_by_w1_c K) (t_least_maker_by_w1_b K))
  (tRet (tVar 2))))
theorem sqT_same {K : PySem.W.Frag} {H H' : Hp} {a : Addr} {xs : List V} (h : SqT K H a xs) (s : Same H H') : SqT K H' a xs := by
  rcases h with (h | ⟨o, h⟩) | h
  · exact .inl (.inl (s _ _ h))
  · exact .inl (.inr ⟨o, s _ _ h⟩)
  · exact .inr h
theorem outL_all {f : Nat → V} {n : Nat} : outL (fun i => some (f i)) n = (List.range n).map f := by
  unfold outL
  simp
theorem in_ints {K : PySem.W.Frag} {H : Hp} {D : Addr} {k : Int} {ns : List Int} {Q : VK} (h : H D = some (.lst (ns.map V.int))) (q : Q (.bl (decide (k ∈ ns))) H) : rIn K false (.int k) (.ref D) H Q := by
  refine ⟨D, _, rfl, .inl (sqL_of h), rfl, ?_, ?_⟩
  · simp [flatV]
  · have e : inV (.int k) (ns.map V.int) = decide (k ∈ ns) := by
      rw [Bool.eq_iff_iff, decide_eq_true_eq]
      simp [inV, eqV]
    simp only [Bool.false_eq_true, if_false, e]
    exact q
theorem pure_least_maker_by (K : PySem.W.Frag) (vs : List V) (H : Hp) (Q : VK) (E : XK) (h : sp_least_maker_by K vs H Q E) : t_least_maker_by K { nx := fun _ H' => Q .non H', rt := Q } (start ["prime", "parts", "maker", "part", "_"] vs) H := by
  obtain ⟨p, T, xs, ps, g, rfl, hp, hp2, hT, hPR, hpl, hps, hg, hgo, hgl, hq⟩ := h
  unfold t_least_maker_by
  walk_at "z"
  refine while_of (fun μ σ H' => ∃ m : Nat, σ = [some (.int p), some (.ref T), some (.int (m : Int)), none, none] ∧ Same H H' ∧ 1 ≤ m ∧ m ≤ g ∧ μ = g - m) (g - 1) ⟨1, rfl, Same.refl H, by omega, hg, rfl⟩ ?_
  rintro μ σ H' ⟨m, rfl, hS, hm, hmg, rfl⟩ N hN hN2
  unfold t_least_maker_by_w1_c t_least_maker_by_w1_b
  walk_at "z"
  have hT' := sqT_same hT hS
  have hPR' := hPR.same hS
  have hxl : xs.length < 2 ^ 20 := by rw [hPR.len]; exact hpl
  refine ⟨T, rfl, ⟨xs, hT'⟩, comp_T hT' (fun i => some (V.int ((m : Int) ^ ((p - 1) / ((ps.getD i ((0 : Nat), (0 : Nat))).1 : Int)).toNat % p))) (by omega) (fun i x H2 hx s2 Qo hQo => ?_) (fun D H2 s2 hD => ?_)⟩
  · obtain ⟨q, t, h1, rfl, h3⟩ := hPR'.get hx
    have hq2 := hps q (List.mem_of_getElem? h1)
    walk_at "z"
    refine ⟨_, sqT_of (s2 _ _ h3), rfl, ?_⟩
    walk_at "z"
    refine ⟨divS (by omega) (by omega), _, _, _, rfl, Int.ediv_nonneg (by omega) (by omega), by omega, by omega, ?_⟩
    have := hQo H2 (Same.refl H2)
    rw [List.getD_eq_getElem?_getD, h1] at this
    exact this
  · rw [outL_all] at hD
    have e : (List.range xs.length).map (fun i => V.int ((m : Int) ^ ((p - 1) / ((ps.getD i ((0 : Nat), (0 : Nat))).1 : Int)).toNat % p)) = (ps.map fun q => (m : Int) ^ ((p - 1) / (q.1 : Int)).toNat % p).map V.int := by
      rw [hPR.len]
      apply List.ext_getElem
      · simp
      · intro i h1 h2
        have h3 : i < ps.length := by simpa using h1
        simp [h3]
    rw [e] at hD
    refine in_ints hD ?_
    walk_at "z"
    have hmem : (1 : Int) ∈ (ps.map fun q => (m : Int) ^ ((p - 1) / (q.1 : Int)).toNat % p) ↔ ¬ MkOk p ps m := by
      unfold MkOk
      rw [List.mem_map]
      constructor
      · rintro ⟨q, hq1, hq2⟩ h
        exact h q hq1 hq2
      · intro h
        refine Classical.byContradiction fun h2 => h fun q hq1 hq2 => h2 ⟨q, hq1, hq2⟩
    by_cases hin : (1 : Int) ∈ (ps.map fun q => (m : Int) ^ ((p - 1) / (q.1 : Int)).toNat % p)
    · rw [if_pos hin]
      refine ⟨N, hN2, ?_⟩
      walk_at "z"
      have hlt : m < g := by
        refine Nat.lt_of_le_of_ne hmg fun e => hmem.mp hin ?_
        rw [e]; exact hgo
      exact hN _ _ _ (by omega) ⟨m + 1, rfl, hS.trans s2, by omega, by omega, rfl⟩
    · rw [if_neg hin]
      have he : m = g := by
        refine Classical.byContradiction fun e => hgl m hm (by omega) (Classical.byContradiction fun h2 => hin (hmem.mpr h2))
      subst he
      exact hq _ (hS.trans s2)
theorem ok_least_maker_by {P : Program} {w : World} {K : PySem.W.Frag} {mg : Str → Option Value} {base : Heap} (T : Tx K mg) : Okk P w K mg base 2 "least_maker_by" ["prime", "parts"] (sp_least_maker_by K) := by
  obtain ⟨fd_power_modulo, F_power_modulo, b_power_modulo, g_power_modulo, k_power_modulo⟩ := ok_power_modulo (P := P) (w := w) (base := base) T
  obtain ⟨fd, F⟩ := T.f_least_maker_by
  refine ⟨fd, F.ok sc_least_maker_by (fun vs H Q E h => len_least_maker_by h) (fun cdv A outer s H vs Q E hr h => ⟨t_least_maker_by K, PSs.nox ?_, pure_least_maker_by K vs H Q E h⟩), F.bindsN (fun _ _ _ _ _ _ us hl => match us, hl with | [_, _], _ => rfl), T.g_least_maker_by, F.kp⟩
  exact (pss_cons (ps_set (i := 2) sc_least_maker_by.nd rfl (by first | exact Or.inl rfl | exact Or.inr rfl) pe_int)
      (pss_cons (ps_while PassesOwn.never (pt_cmpR op_in_seq pe_int (pe_lc (own := [("part", 3), ("_", 4)]) (g := (gTup K 2 (gCons (gName 3) (gCons (gName 4) gNil)))) (tt := tYes) rfl sc_least_maker_by.nd (pi_tup (pv 1)) (blkOk_by (own := [("part", 3), ("_", 4)]) (N := ["prime", "parts", "maker", "part", "_"]) (sc := defScope s_least_maker_by) (by decide +kernel)) (fun _ _ _ _ _ => (pg_tup rfl (pgs_cons (pg_name (i := 3) sc_least_maker_by.nd rfl (by first | exact Or.inl rfl | exact Or.inr rfl)) (pgs_cons (pg_name (i := 4) sc_least_maker_by.nd rfl (by first | exact Or.inl rfl | exact Or.inr rfl)) pgs_nil)))) (fun _ _ _ _ _ => pts_nil) (fun _ _ _ _ _ => (pe_call F_power_modulo (hr.mono (by decide)) rfl g_power_modulo k_power_modulo b_power_modulo .nil pass0 (pa_cons (pv 2) (pa_cons (pe_op op_fdivW (pe_op op_sub (pv 0) pe_int) (pv 3)) (pa_cons (pv 0) pa_nil)))))) rfl) (pss_one (ps_aug (i := 2) sc_least_maker_by.nd rfl (by first | exact Or.inl rfl | exact Or.inr rfl) pe_int ip_add)))
      (pss_one (ps_ret (pv 2)))))
/-! ### is_prime -/
theorem sc_is_prime : FnScope ["number"] ["number"] (defScope s_is_prime) := ⟨rfl, rfl, rfl, by decide +kernel, rfl, by decide +kernel, by decide +kernel⟩
def sp_is_prime (K : PySem.W.Frag) : Sp := fun vs H Q _ => ∃ n : Int, vs = [.int n] ∧ 0 ≤ n ∧ n ≤ 10 ^ 8 ∧ ∀ b : Bool, (b = true ↔ PrimeI n) → Q (.bl b) H
theorem len_is_prime {K : PySem.W.Frag} {vs : List V} {H : Hp} {Q : VK} {E : XK} (h : sp_is_prime K vs H Q E) : vs.length = ["number"].length := by
  obtain ⟨_, rfl, _⟩ := h
  rfl
def t_is_prime (K : PySem.W.Frag) : TS := (tSeq (tDrop (tCall (sp_check_between K) [] E0 (tCons (tVar 0) (tCons (tC (.int 0)) (tCons (tC (.int 100000000)) tNil)))))
  (tRet (tCall (sp_has_no_parts K) [] E0 (tCons (tVar 0) tNil))))
theorem pure_is_prime (K : PySem.W.Frag) (vs : List V) (H : Hp) (Q : VK) (E : XK) (h : sp_is_prime K vs H Q E) : t_is_prime K { nx := fun _ H' => Q .non H', rt := Q } (start ["number"] vs) H := by
  obtain ⟨n, rfl, h1, h2, hq⟩ := h
  unfold t_is_prime
  walk_at "z"
  refine ⟨_, _, _, rfl, h1, by omega, ?_⟩
  walk_at "z"
  exact ⟨n, rfl, by omega, hq⟩
theorem ok_is_prime {P : Program} {w : World} {K : PySem.W.Frag} {mg : Str → Option Value} {base : Heap} (T : Tx K mg) : Okk P w K mg base 3 "is_prime" ["number"] (sp_is_prime K) := by
  obtain ⟨fd_has_no_parts, F_has_no_parts, b_has_no_parts, g_has_no_parts, k_has_no_parts⟩ := ok_has_no_parts (P := P) (w := w) (base := base) T
  obtain ⟨fd_check_between, F_check_between, b_check_between, g_check_between, k_check_between⟩ := ok_check_between (P := P) (w := w) (base := base) T
  obtain ⟨_, hc_MOST⟩ := T.c_MOST
  obtain ⟨fd, F⟩ := T.f_is_prime
  refine ⟨fd, F.ok sc_is_prime (fun vs H Q E h => len_is_prime h) (fun cdv A outer s H vs Q E hr h => ⟨t_is_prime K, PSs.nox ?_, pure_is_prime K vs H Q E h⟩), F.bindsN (fun _ _ _ _ _ _ us hl => match us, hl with | [_], _ => rfl), T.g_is_prime, F.kp⟩
  exact (pss_cons (ps_expr (pe_call F_check_between (hr.mono (by decide)) rfl g_check_between k_check_between b_check_between .nil pass0 (pa_cons (pv 0) (pa_cons pe_int (pa_cons (pe_glob rfl hc_MOST ⟨_, rfl⟩) pa_nil)))))
      (pss_one (ps_ret (pe_call F_has_no_parts (hr.mono (by decide)) rfl g_has_no_parts k_has_no_parts b_has_no_parts .nil pass0 (pa_cons (pv 0) pa_nil)))))
/-! ### next_prime -/
theorem sc_next_prime : FnScope ["number", "candidate"] ["number"] (defScope s_next_prime) := ⟨rfl, rfl, rfl, by decide +kernel, rfl, by decide +kernel, by decide +kernel⟩
def sp_next_prime (K : PySem.W.Frag) : Sp := fun vs H Q _ => ∃ n b : Nat, vs = [.int (n : Int)] ∧ n ≤ 10 ^ 8 ∧ n < b ∧ b < 2 ^ 39 ∧ PrimeI b ∧ ∀ m : Nat, n < m → m ≤ b → PrimeI m → (∀ k : Nat, n < k → k < m → ¬ PrimeI k) → Q (.int (m : Int)) H
theorem len_next_prime {K : PySem.W.Frag} {vs : List V} {H : Hp} {Q : VK} {E : XK} (h : sp_next_prime K vs H Q E) : vs.length = ["number"].length := by
  obtain ⟨_, _, rfl, _⟩ := h
  rfl
def t_next_prime_w1_c (K : PySem.W.Frag) : TT := (tNot (tB (tCall (sp_has_no_parts K) [] E0 (tCons (tVar 1) tNil))))
def t_next_prime_w1_b (K : PySem.W.Frag) : TS := (tAug 1 (tC (.int 1)) (ipI fun i j => i + j))
def t_next_prime (K : PySem.W.Frag) : TS := (tSeq (tDrop (tCall (sp_check_between K) [] E0 (tCons (tVar 0) (tCons (tC (.int 0)) (tCons (tC (.int 100000000)) tNil)))))
  (tSeq (tAsg (tOp rAdd (tVar 0) (tC (.int 1))) (gName 1))
  (tSeq (tWhile (t_next_prime_w1_c K) (t_next_prime_w1_b K))
  (tRet (tVar 1)))))
theorem pure_next_prime (K : PySem.W.Frag) (vs : List V) (H : Hp) (Q : VK) (E : XK) (h : sp_next_prime K vs H Q E) : t_next_prime K { nx := fun _ H' => Q .non H', rt := Q } (start ["number", "candidate"] vs) H := by
  obtain ⟨n, b, rfl, hn, hnb, hb, hpb, hq⟩ := h
  unfold t_next_prime
  walk_at "z"
  refine ⟨_, _, _, rfl, by omega, by omega, ?_⟩
  walk_at "z"
  refine while_of (fun μ σ H' => ∃ m : Nat, σ = [some (.int (n : Int)), some (.int (m : Int))] ∧ H' = H ∧ n < m ∧ m ≤ b ∧ μ = b - m ∧ ∀ k : Nat, n < k → k < m → ¬ PrimeI k) (b - (n + 1)) ⟨n + 1, rfl, rfl, by omega, by omega, rfl, fun k a c => by omega⟩ ?_
  rintro μ σ H' ⟨m, rfl, rfl, hm, hmb, rfl, hk⟩ N hN hN2
  unfold t_next_prime_w1_c t_next_prime_w1_b
  walk_at "z"
  refine ⟨_, rfl, by omega, fun c hc => ?_⟩
  walk_at "z"
  cases c with
  | true =>
    simp only [if_true, Bool.true_eq_false, if_false]
    exact hq m hm hmb (hc.mp rfl) hk
  | false =>
    simp only [if_true]
    refine ⟨N, hN2, ?_⟩
    walk_at "z"
    have hp : ¬ PrimeI m := fun h => by have := hc.mpr h; cases this
    have hne : m ≠ b := fun e => hp (e ▸ hpb)
    exact hN _ _ _ (by omega) ⟨m + 1, rfl, rfl, by omega, by omega, rfl, fun k a c => by
      by_cases e : k = m
      · rw [e]; exact hp
      · exact hk k a (by omega)⟩
theorem ok_next_prime {P : Program} {w : World} {K : PySem.W.Frag} {mg : Str → Option Value} {base : Heap} (T : Tx K mg) : Okk P w K mg base 3 "next_prime" ["number"] (sp_next_prime K) := by
  obtain ⟨fd_has_no_parts, F_has_no_parts, b_has_no_parts, g_has_no_parts, k_has_no_parts⟩ := ok_has_no_parts (P := P) (w := w) (base := base) T
  obtain ⟨fd_check_between, F_check_between, b_check_between, g_check_between, k_check_between⟩ := ok_check_between (P := P) (w := w) (base := base) T
  obtain ⟨_, hc_MOST⟩ := T.c_MOST
  obtain ⟨fd, F⟩ := T.f_next_prime
  refine ⟨fd, F.ok sc_next_prime (fun vs H Q E h => len_next_prime h) (fun cdv A outer s H vs Q E hr h => ⟨t_next_prime K, PSs.nox ?_, pure_next_prime K vs H Q E h⟩), F.bindsN (fun _ _ _ _ _ _ us hl => match us, hl with | [_], _ => rfl), T.g_next_prime, F.kp⟩
  exact (pss_cons (ps_expr (pe_call F_check_between (hr.mono (by decide)) rfl g_check_between k_check_between b_check_between .nil pass0 (pa_cons (pv 0) (pa_cons pe_int (pa_cons (pe_glob rfl hc_MOST ⟨_, rfl⟩) pa_nil)))))
      (pss_cons (ps_set (i := 1) sc_next_prime.nd rfl (by first | exact Or.inl rfl | exact Or.inr rfl) (pe_op op_add (pv 0) pe_int))
      (pss_cons (ps_while PassesOwn.never (pt_not (pt_val (pe_call F_has_no_parts (hr.mono (by decide)) rfl g_has_no_parts k_has_no_parts b_has_no_parts .nil pass0 (pa_cons (pv 1) pa_nil)))) (pss_one (ps_aug (i := 1) sc_next_prime.nd rfl (by first | exact Or.inl rfl | exact Or.inr rfl) pe_int ip_add)))
      (pss_one (ps_ret (pv 1))))))
/-! ### prime_paper -/
theorem sc_prime_paper : FnScope ["number", "rows", "waiting", "prime", "parts", "part", "_"] ["number"] (defScope s_prime_paper) := ⟨rfl, rfl, rfl, by decide +kernel, rfl, by decide +kernel, by decide +kernel⟩
/-- a row of a paper -/
def RowV (H : Hp) (v : V) (p g : Nat) : Prop := ∃ a T xs, v = .ref a ∧ H a = some (.tup [.int p, .int g, .ref T]) ∧ H T = some (.tup xs) ∧ PR H xs (ppN (p - 1))
structure RowOk (p g : Nat) : Prop where
  pr : PrimeN p
  odd : p ≠ 2
  g1 : 1 ≤ g
  gp : g < p
  mko : MkOk p (ppN (p - 1)) g
structure PaperOk (H : Hp) (n : Nat) (xs : List V) (rs : List (Nat × Nat)) : Prop where
  vs : Paired (fun v r => RowV H v r.1 r.2) xs rs
  asc : rs.Pairwise fun a b => a.1 < b.1
  ok : ∀ r ∈ rs, RowOk r.1 r.2 ∧ r.1 ≤ n
  closed : ∀ r ∈ rs, ∀ q ∈ ppN (r.1 - 1), q.1 = 2 ∨ ∃ r' ∈ rs, r'.1 = q.1
  two : n = 2 → rs = []
  top : n ≠ 2 → ∃ r ∈ rs, r.1 = n
  len : rs.length < 27
def sp_prime_paper (K : PySem.W.Frag) : Sp := fun vs H Q _ => ∃ n : Nat, vs = [.int (n : Int)] ∧ PrimeN n ∧ n ≤ 10 ^ 8 ∧ ∀ T xs rs H', Same H H' → H' T = some (.tup xs) → PaperOk H' n xs rs → Q (.ref T) H'
theorem len_prime_paper {K : PySem.W.Frag} {vs : List V} {H : Hp} {Q : VK} {E : XK} (h : sp_prime_paper K vs H Q E) : vs.length = ["number"].length := by
  obtain ⟨_, rfl, _⟩ := h
  rfl
def t_prime_paper_w1_c (K : PySem.W.Frag) : TT := (tTru K (tVar 2))
def t_prime_paper_w1_b (K : PySem.W.Frag) : TS := (tSeq (tAsg (tBM0 K "list" rPop (tVar 2)) (gName 3))
  (tSeq (tIfS (tOr (tTest (tOp rEq (tVar 3) (tC (.int 2)))) (tB (tDIn (tVar 3) (tVar 1)))) tCont tNext)
  (tSeq (tAsg (tCall (sp_prime_powers K) [] E0 (tCons (tOp rSub (tVar 3) (tC (.int 1))) tNil)) (gName 4))
  (tSeq (sDPut (tVar 1) (tVar 3) (tTup (tCons (tVar 3) (tCons (tCall (sp_least_maker_by K) [] E0 (tCons (tVar 3) (tCons (tVar 4) tNil))) (tCons (tVar 4) tNil)))))
  (tDrop (tBM K "list" rExtend (tVar 2) (tCons (tLc (iTup K (tVar 4)) (gTup K 2 (gCons (gName 5) (gCons (gName 6) gNil))) tYes (tVar 5) [5, 6]) tNil)))))))
def t_prime_paper (K : PySem.W.Frag) : TS := (tSeq (tAsg tDNewK (gName 1))
  (tSeq (tAsg (tLst (tCons (tVar 0) tNil)) (gName 2))
  (tSeq (tWhile (t_prime_paper_w1_c K) (t_prime_paper_w1_b K))
  (tRet (tCB (rTupOf K) (tCons (tLc (iList K (tCB (rSortedDI) (tCons (tVar 1) tNil))) (gName 3) tYes (tDGet (tVar 1) (tVar 3)) [3]) tNil))))))
def TM (H H' : Hp) : Prop := ∀ t ys, H t = some (.tup ys) → H' t = some (.tup ys)
theorem TM.of {H H' : Hp} (s : Same H H') : TM H H' := fun _ _ h => s _ _ h
theorem TM.trans {H H1 H2 : Hp} (a : TM H H1) (b : TM H1 H2) : TM H H2 := fun t y h => b t y (a t y h)
theorem TM.put {H : Hp} {p : Addr} {o : HO} (h : ∀ ys, H p ≠ some (.tup ys)) : TM H (upd H p o) := fun t y e => by
  rw [upd_ne (fun c : t = p => h y (by rw [← c]; exact e))]; exact e
theorem row_tm {H H' : Hp} {p g : Nat} {a : Addr} (s : TM H H') (h : ∃ T xs, H a = some (.tup [.int (p : Int), .int (g : Int), .ref T]) ∧ H T = some (.tup xs) ∧ PR H xs (ppN (p - 1))) :
    ∃ T xs, H' a = some (.tup [.int (p : Int), .int (g : Int), .ref T]) ∧ H' T = some (.tup xs) ∧ PR H' xs (ppN (p - 1)) := by
  obtain ⟨T, xs, h1, h2, h3⟩ := h
  exact ⟨T, xs, s _ _ h1, s _ _ h2, h3.mono s⟩
theorem lift_rows {rs : List (Nat × Nat × Addr)} : ∀ ys : List Int, (∀ y ∈ ys, ∃ r ∈ rs, (r.1 : Int) = y) → ∃ rs' : List (Nat × Nat × Addr), rs'.map (fun r => (r.1 : Int)) = ys ∧ ∀ r ∈ rs', r ∈ rs
  | [], _ => ⟨[], rfl, fun _ h => by cases h⟩
  | y :: t, h => by
    obtain ⟨r, hr, e⟩ := h y List.mem_cons_self
    obtain ⟨rs', e2, h2⟩ := lift_rows t fun z hz => h z (List.mem_cons_of_mem _ hz)
    exact ⟨r :: rs', by rw [List.map_cons, e, e2], fun x hx => (List.mem_cons.mp hx).elim (fun c => c ▸ hr) (h2 x)⟩
theorem paired_maps {α β γ : Type} {F : β → γ → Prop} {f : α → β} {g : α → γ} : ∀ {l : List α}, (∀ r ∈ l, F (f r) (g r)) → Paired F (l.map f) (l.map g)
  | [], _ => .nil
  | r :: t, h => .cons (h r List.mem_cons_self) (paired_maps fun x hx => h x (List.mem_cons_of_mem _ hx))
theorem outL_get {α : Type} (l : List α) (f : α → V) {n : Nat} (hn : n = l.length) : outL (fun i => (l[i]?).map f) n = l.map f := by
  subst hn
  unfold outL
  apply List.ext_getElem?
  intro i
  have h : ∀ m, m ≤ l.length → (List.range m).filterMap (fun i => (l[i]?).map f) = (l.take m).map f := by
    intro m
    induction m with
    | zero => intro _; rfl
    | succ m ih =>
      intro hm
      rw [List.range_succ, List.filterMap_append, ih (by omega), List.take_succ_eq_append_getElem (by omega), List.map_append]
      simp [List.getElem?_eq_getElem (show m < l.length by omega)]
  rw [h _ (Nat.le_refl _), List.take_length]
theorem len_sum : ∀ {l : List Nat}, (∀ x ∈ l, 1 ≤ x) → l.length ≤ l.sum
  | [], _ => Nat.le_refl 0
  | x :: r, h => by
    have h1 := h x List.mem_cons_self
    have h2 := len_sum (l := r) fun y hy => h y (List.mem_cons_of_mem _ hy)
    rw [List.length_cons, List.sum_cons]
    omega
theorem mk_ex {p : Nat} (hp : PrimeN p) : ∃ g : Nat, 1 ≤ g ∧ g < p ∧ MkOk p (ppN (p - 1)) g ∧ ∀ k : Nat, 1 ≤ k → k < g → ¬ MkOk p (ppN (p - 1)) k := by
  have p2 := hp.1
  obtain ⟨a, ha, hm⟩ := maker_any hp (ppN_good (show 1 ≤ p - 1 by omega))
  have h1 := Int.emod_nonneg a (show (p : Int) ≠ 0 by omega)
  have h2 := Int.emod_lt_of_pos a (show (0 : Int) < p by omega)
  have h3 : a % p ≠ 0 := fun e => ha (Int.dvd_of_emod_eq_zero e)
  obtain ⟨g, hg⟩ : ∃ g : Nat, a % p = g := ⟨(a % p).toNat, by omega⟩
  have hmk : MkOk p (ppN (p - 1)) g := by
    intro q hq
    have hd : (((p : Int) - 1) / (q.1 : Int)).toNat = (p - 1) / q.1 := by
      have e : ((p : Int) - 1) = ((p - 1 : Nat) : Int) := by omega
      rw [e, ← Int.natCast_ediv, Int.toNat_natCast]
    rw [hd, ← hg, pow_emod]
    have := hm q hq
    rwa [Int.emod_eq_of_lt (show (0 : Int) ≤ 1 by decide) (by omega)] at this
  have key : ∀ N : Nat, MkOk p (ppN (p - 1)) N → 1 ≤ N → N < p → ∃ g : Nat, 1 ≤ g ∧ g < p ∧ MkOk p (ppN (p - 1)) g ∧ ∀ k : Nat, 1 ≤ k → k < g → ¬ MkOk p (ppN (p - 1)) k := by
    intro N
    induction N using Nat.strongRecOn with
    | ind N ih =>
      intro h1 h2 h3
      by_cases e : ∃ k : Nat, 1 ≤ k ∧ k < N ∧ MkOk p (ppN (p - 1)) k
      · obtain ⟨k, a, b, c⟩ := e
        exact ih k b c a (by omega)
      · exact ⟨N, h2, h3, h1, fun k a b c => e ⟨k, a, b, c⟩⟩
  exact key g hmk (by omega) (by omega)
def fN (p : Nat) : Nat := if p = 2 then 1 else p
def prF (ws : List Nat) : Nat := ws.foldr (fun p m => fN p * m) 1
theorem prF_app (l r : List Nat) : prF (l ++ r) = prF l * prF r := by
  induction l with
  | nil => simp [prF]
  | cons x l ih => simp only [prF, List.cons_append, List.foldr_cons] at ih ⊢; rw [ih, Nat.mul_assoc]
theorem sum_app (l r : List Nat) : (l ++ r).sum = l.sum + r.sum := List.sum_append
/-- the odd primes of a row make no more than what is left of the number by its twos -/
theorem prF_le : ∀ {ps : List (Nat × Nat)}, (∀ q ∈ ps, PrimeN q.1 ∧ 1 ≤ q.2) → prF (ps.map (·.1)) ≤ prodN ps ∧ (2 ∈ ps.map (·.1) → 2 * prF (ps.map (·.1)) ≤ prodN ps) ∧ (ps.map (·.1)).sum ≤ prodN ps ∧ 1 ≤ prodN ps
  | [], _ => by simp [prF, prodN]
  | x :: r, h => by
    obtain ⟨i1, i2, i3, i4⟩ := prF_le (ps := r) fun q hq => h q (List.mem_cons_of_mem _ hq)
    have hx := h x List.mem_cons_self
    have x2 := hx.1.1
    have e1 : x.1 ≤ x.1 ^ x.2 := by
      obtain ⟨k, hk⟩ : ∃ k, x.2 = k + 1 := ⟨x.2 - 1, by omega⟩
      rw [hk, Nat.pow_succ]
      exact Nat.le_mul_of_pos_left _ (Nat.pow_pos (by omega))
    have f1 : fN x.1 ≤ x.1 ^ x.2 := by unfold fN; split <;> omega
    rw [prodN_cons]
    refine ⟨?_, fun hm => ?_, ?_, ?_⟩
    · show fN x.1 * prF (r.map (·.1)) ≤ _
      exact Nat.mul_le_mul f1 i1
    · show 2 * (fN x.1 * prF (r.map (·.1))) ≤ _
      rw [List.map_cons, List.mem_cons] at hm
      rcases hm with hm | hm
      · have : fN x.1 = 1 := by unfold fN; rw [if_pos hm.symm]
        rw [this, Nat.one_mul]
        exact Nat.mul_le_mul (by omega) i1
      · rw [Nat.mul_left_comm]
        exact Nat.mul_le_mul f1 (i2 hm)
    · rw [List.map_cons, List.sum_cons]
      by_cases h1 : prodN r = 1
      · have : r = [] := by
          match r, h with
          | [], _ => rfl
          | y :: t, h =>
            exfalso
            have hy := h y (List.mem_cons_of_mem _ List.mem_cons_self)
            have := len_le (ps := y :: t) fun q hq => h q (List.mem_cons_of_mem _ hq)
            rw [h1, List.length_cons, Nat.pow_succ] at this
            have := Nat.one_le_two_pow (n := t.length)
            omega
        subst this
        simp [prodN]
        exact e1
      · have g2 : 2 ≤ prodN r := by omega
        have g3 : 2 ≤ x.1 ^ x.2 := by omega
        generalize prodN r = u at *
        generalize x.1 ^ x.2 = w at *
        have : w + u ≤ w * u := by
          obtain ⟨c, rfl⟩ : ∃ c, u = c + 2 := ⟨u - 2, by omega⟩
          obtain ⟨d, rfl⟩ : ∃ d, w = d + 2 := ⟨w - 2, by omega⟩
          rw [Nat.mul_add, Nat.add_mul, Nat.add_mul]
          omega
        omega
    · exact Nat.mul_pos (by omega) (by omega)
theorem prF_step {p : Nat} (hp : PrimeN p) (h2 : p ≠ 2) : 2 * prF ((ppN (p - 1)).map (·.1)) ≤ fN p ∧ ((ppN (p - 1)).map (·.1)).sum < p := by
  have p2 := hp.1
  have g := ppN_good (show 1 ≤ p - 1 by omega)
  obtain ⟨_, i2, i3, _⟩ := prF_le g.pr
  rw [g.prod] at i2 i3
  have two : PrimeN 2 := ⟨Nat.le_refl 2, fun k a b => by omega⟩
  have hd : 2 ∣ p - 1 := by
    have : ¬ 2 ∣ p := fun hd => h2 ((two.eq hp hd).symm)
    omega
  obtain ⟨q, hq, e⟩ := g.all two hd
  have := i2 (List.mem_map.mpr ⟨q, hq, e⟩)
  refine ⟨?_, by omega⟩
  unfold fN
  rw [if_neg h2]
  omega
def kvR (rs : List (Nat × Nat × Addr)) : List (Key × V) := rs.map fun r => (.inl (r.1 : Int), .ref r.2.2)
theorem kvR_val (rs : List (Nat × Nat × Addr)) (p : Nat) : (valV (kvR rs) (.inl (p : Int))).isSome = decide (p ∈ rs.map (·.1)) := by
  induction rs with
  | nil => rfl
  | cons r t ih =>
    by_cases e : r.1 = p
    · have : valV (kvR (r :: t)) (.inl (p : Int)) = some (.ref r.2.2) := by
        unfold valV kvR
        rw [List.map_cons, List.find?_cons_of_pos (by simp [e])]
        rfl
      rw [this]
      simp [e]
    · have : valV (kvR (r :: t)) (.inl (p : Int)) = valV (kvR t) (.inl (p : Int)) := by
        unfold valV kvR
        rw [List.map_cons, List.find?_cons_of_neg (by simp; omega)]
      rw [this, ih, List.map_cons]
      rw [Bool.eq_iff_iff, decide_eq_true_eq, decide_eq_true_eq, List.mem_cons]
      constructor
      · exact .inr
      · rintro (h | h)
        · exact absurd h.symm e
        · exact h
theorem kvR_get {rs : List (Nat × Nat × Addr)} (hn : (rs.map (·.1)).Nodup) {r : Nat × Nat × Addr} (h : r ∈ rs) : valV (kvR rs) (.inl (r.1 : Int)) = some (.ref r.2.2) := by
  induction rs with
  | nil => cases h
  | cons x t ih =>
    rw [List.map_cons, List.nodup_cons] at hn
    rcases List.mem_cons.mp h with e | h
    · subst e
      unfold valV kvR
      rw [List.map_cons, List.find?_cons_of_pos (by simp)]
      rfl
    · have hne : x.1 ≠ r.1 := fun e => hn.1 (e ▸ List.mem_map.mpr ⟨r, h, rfl⟩)
      have : valV (kvR (x :: t)) (.inl (r.1 : Int)) = valV (kvR t) (.inl (r.1 : Int)) := by
        unfold valV kvR
        rw [List.map_cons, List.find?_cons_of_neg (by simp; omega)]
      rw [this]
      exact ih hn.2 h
theorem kvR_put {rs : List (Nat × Nat × Addr)} {p g : Nat} {a : Addr} (h : p ∉ rs.map (·.1)) : putK (kvR rs) (.inl (p : Int)) (.ref a) = kvR (rs ++ [(p, g, a)]) := by
  unfold putK
  rw [if_neg]
  · simp [kvR]
  · intro hc
    rw [List.any_eq_true] at hc
    obtain ⟨x, hx, e⟩ := hc
    obtain ⟨r, hr, rfl⟩ := List.mem_map.mp hx
    have : r.1 = p := by
      have e2 : (r.1 : Int) = p := by simpa using e
      omega
    exact h (this ▸ List.mem_map.mpr ⟨r, hr, rfl⟩)
theorem pure_prime_paper (K : PySem.W.Frag) (vs : List V) (H : Hp) (Q : VK) (E : XK) (h : sp_prime_paper K vs H Q E) : t_prime_paper K { nx := fun _ H' => Q .non H', rt := Q } (start ["number", "rows", "waiting", "prime", "parts", "part", "_"] vs) H := by
  obtain ⟨n, rfl, hp, hn, hq⟩ := h
  unfold t_prime_paper
  walk_at "z"
  intro d hd
  refine ⟨by decide, fun w hw => ?_⟩
  have hdw : d ≠ w := fun e => by rw [e, upd_same] at hw; cases hw
  have hw0 : H w = none := by rwa [upd_ne (Ne.symm hdw)] at hw
  refine while_of (fun μ σ H' => ∃ (rs : List (Nat × Nat × Addr)) (ws : List Nat) (o3 o4 : Option V), σ = [some (.int (n : Int)), some (.ref d), some (.ref w), o3, o4, none, none] ∧ H' d = some (.dK (kvR rs)) ∧ H' w = some (.lst (ws.map fun p : Nat => V.int (p : Int))) ∧ Same H H' ∧ (rs.map (·.1)).Nodup ∧
      (∀ r ∈ rs, RowOk r.1 r.2.1 ∧ r.1 ≤ n ∧ ∃ T xs, H' r.2.2 = some (.tup [.int r.1, .int r.2.1, .ref T]) ∧ H' T = some (.tup xs) ∧ PR H' xs (ppN (r.1 - 1))) ∧
      (∀ r ∈ rs, ∀ q ∈ ppN (r.1 - 1), q.1 = 2 ∨ q.1 ∈ rs.map (·.1) ∨ q.1 ∈ ws) ∧ (n = 2 ∨ n ∈ rs.map (·.1) ∨ n ∈ ws) ∧ (∀ p ∈ ws, PrimeN p ∧ p ≤ n) ∧ 2 ^ rs.length * prF ws ≤ fN n ∧ ws.sum ≤ n ∧ ws.length ≤ 1 + 27 * rs.length ∧ μ = ws.sum) n ⟨[], [n], _, _, rfl, ?_, upd_same, ?_, by simp, by simp, by simp, by simp, by simpa using hp, by simp [prF], by simp, by simp, by simp⟩ ?_
  · rw [upd_ne hdw, upd_same]; rfl
  · exact (same_upd hd).trans (same_upd hw)
  rintro μ σ H' ⟨rs, ws, o3, o4, rfl, hD, hW, hS, hnd, hrow, hcl, hn2, hws, hF, hsum, hwl, rfl⟩ N hN hN2
  unfold t_prime_paper_w1_c t_prime_paper_w1_b
  walk_at "z"
  refine ⟨_, .inl ⟨_, sqL_of hW, rfl⟩, ?_⟩
  have hfn : fN n ≤ 10 ^ 8 := by unfold fN; split <;> omega
  have hrl : rs.length < 27 := by
    have hp1 : 1 ≤ prF ws := by
      refine Nat.pos_of_ne_zero fun e => ?_
      clear hN hN2 hcl hn2 hF hsum hW hwl
      induction ws with
      | nil => simp [prF] at e
      | cons x r ih =>
        have h1 : fN x * prF r = 0 := e
        rcases Nat.mul_eq_zero.mp h1 with h | h
        · have := (hws x List.mem_cons_self).1.1
          unfold fN at h
          split at h <;> omega
        · exact ih (fun y hy => hws y (List.mem_cons_of_mem _ hy)) h
    have h2 : 2 ^ rs.length ≤ 10 ^ 8 := Nat.le_trans (Nat.le_trans (Nat.le_mul_of_pos_right _ hp1) hF) hfn
    refine Nat.lt_of_not_le fun c => ?_
    have := Nat.pow_le_pow_right (show 0 < 2 by decide) c
    omega
  rcases List.eq_nil_or_concat ws with rfl | ⟨l, p, rfl⟩
  · rw [if_neg (by simp)]
    refine ⟨d, kvR rs, rs.map fun r => (r.1 : Int), rfl, .inl hD, by simp [kvR], by simp; omega, fun ys D hperm hsort hDn => ?_⟩
    obtain ⟨rs', ers, hrs⟩ := lift_rows (rs := rs) ys fun y hy => by
      obtain ⟨r, hr, e⟩ := List.mem_map.mp (hperm.mem_iff.mp hy)
      exact ⟨r, hr, e⟩
    have hnI : (rs.map fun r => (r.1 : Int)).Nodup := by
      have e : (rs.map fun r => (r.1 : Int)) = (rs.map (·.1)).map fun k : Nat => (k : Int) := by simp
      rw [e]
      exact List.pairwise_map.mpr (hnd.imp fun h c => h (by omega))
    have hny : ys.Nodup := hperm.nodup_iff.mpr hnI
    have hlt : rs'.Pairwise fun a b => a.1 < b.1 := by
      have h := hsort.and hny
      rw [← ers, List.pairwise_map] at h
      exact h.imp fun ⟨a, b⟩ => by omega
    have hall : ∀ k, k ∈ rs.map (·.1) → ∃ r ∈ rs', r.1 = k := fun k hk => by
      obtain ⟨r, hr, e⟩ := List.mem_map.mp hk
      have : (r.1 : Int) ∈ ys := hperm.mem_iff.mpr (List.mem_map.mpr ⟨r, hr, rfl⟩)
      rw [← ers] at this
      obtain ⟨r2, hr2, e2⟩ := List.mem_map.mp this
      exact ⟨r2, hr2, by omega⟩
    have hyl : ys.length = rs.length := by rw [hperm.length_eq, List.length_map]
    refine ⟨D, rfl, ⟨_, sqL_of upd_same⟩, comp_L (sqL_of upd_same) (fun i => (rs'[i]?).map fun r => V.ref r.2.2) (by rw [List.length_map, hyl]; omega) (fun i x Hc hx sc Qo hQo => ?_) (fun D2 H2 s2 hD2 => ?_)⟩
    · have hx2 : ∃ r, rs'[i]? = some r ∧ x = .int (r.1 : Int) := by
        rw [← ers, List.map_map, List.getElem?_map] at hx
        cases e : rs'[i]? with
        | none => rw [e] at hx; cases hx
        | some r =>
          rw [e] at hx
          exact ⟨r, rfl, by simpa using hx.symm⟩
      obtain ⟨r, hr, rfl⟩ := hx2
      walk_at "z"
      have hdD : d ≠ D := ne_of_none hD hDn
      refine ⟨d, _, rfl, .inl ⟨kvR rs, .inl (r.1 : Int), .inl (sc _ _ (by rw [upd_ne hdD]; exact hD)), rfl, (kvR_get hnd (hrs r (List.mem_of_getElem? hr))).symm⟩, ?_⟩
      have := hQo Hc (Same.refl _)
      rw [hr] at this
      exact this
    · rw [outL_get rs' _ (by rw [← ers, List.map_map, List.length_map])] at hD2
      refine ⟨D2, _, rfl, .inl ⟨sqL_of hD2, fun T hT => ?_⟩⟩
      have sE : Same H (upd H2 T (.tup (rs'.map fun r => V.ref r.2.2))) := ((hS.trans (same_upd hDn)).trans s2).trans (same_upd hT)
      have tE : TM H' (upd H2 T (.tup (rs'.map fun r => V.ref r.2.2))) := TM.of (((same_upd hDn).trans s2).trans (same_upd hT))
      refine hq T _ (rs'.map fun r => (r.1, r.2.1)) _ sE upd_same ⟨paired_maps fun r hr => ?_, ?_, fun r hr => ?_, fun r hr q hqq => ?_, fun e => ?_, fun e => ?_, ?_⟩
      · obtain ⟨T2, xs2, a1, a2, a3⟩ := row_tm tE (hrow r (hrs r hr)).2.2
        exact ⟨_, T2, xs2, rfl, a1, a2, a3⟩
      · rw [List.pairwise_map]; exact hlt
      · obtain ⟨r0, hr0, rfl⟩ := List.mem_map.mp hr
        exact ⟨(hrow r0 (hrs r0 hr0)).1, (hrow r0 (hrs r0 hr0)).2.1⟩
      · obtain ⟨r0, hr0, rfl⟩ := List.mem_map.mp hr
        rcases hcl r0 (hrs r0 hr0) q hqq with h | h | h
        · exact .inl h
        · obtain ⟨r2, hr2, e2⟩ := hall _ h
          exact .inr ⟨_, List.mem_map.mpr ⟨r2, hr2, rfl⟩, e2⟩
        · cases h
      · have h1 : fN n = 1 := by unfold fN; rw [if_pos e]
        have h2 : rs.length = 0 := by
          refine Classical.byContradiction fun c => ?_
          have := Nat.pow_le_pow_right (show 0 < 2 by decide) (show 1 ≤ rs.length by omega)
          have h3 : 2 ^ rs.length * 1 ≤ 1 := by
            have := hF
            rw [h1] at this
            simpa [prF] using this
          omega
        have h3 : rs' = [] := by
          refine List.eq_nil_of_length_eq_zero ?_
          have := congrArg List.length ers
          rw [List.length_map] at this
          omega
        rw [h3]; rfl
      · rcases hn2 with h | h | h
        · exact absurd h e
        · obtain ⟨r2, hr2, e2⟩ := hall _ h
          exact ⟨_, List.mem_map.mpr ⟨r2, hr2, rfl⟩, e2⟩
        · cases h
      · have := congrArg List.length ers
        rw [List.length_map] at this
        rw [List.length_map]
        omega
  · rw [if_pos (by simp)]
    refine ⟨N, hN2, ?_⟩
    walk_at "z"
    rw [List.concat_eq_append] at *
    have hpw := hws p (by simp)
    have p2 := hpw.1.1
    have hsum2 : l.sum + p ≤ n := by rw [sum_app] at hsum; simpa using hsum
    have hl := fun x hx => hws x (List.mem_append_left [p] hx)
    have hF2 : 2 ^ rs.length * (prF l * fN p) ≤ fN n := by
      rw [prF_app] at hF
      simpa [prF] using hF
    refine ⟨tyL hW, w, _, .int (p : Int), rfl, rfl, hW, by simp, ?_⟩
    have edl : ((l ++ [p]).map fun p : Nat => V.int (p : Int)).dropLast = l.map fun p : Nat => V.int (p : Int) := by simp
    rw [edl]
    walk_at "z"
    have hD1 : upd H' w (.lst (l.map fun p : Nat => V.int (p : Int))) d = some (.dK (kvR rs)) := by rw [upd_ne hdw]; exact hD
    have hS1 : Same H (upd H' w (.lst (l.map fun p : Nat => V.int (p : Int)))) := same_mut hS hw0
    have tm1 : TM H' (upd H' w (.lst (l.map fun p : Nat => V.int (p : Int)))) := TM.put fun ys c => by rw [hW] at c; cases c
    have hW1 : upd H' w (.lst (l.map fun p : Nat => V.int (p : Int))) w = some (.lst (l.map fun p : Nat => V.int (p : Int))) := upd_same
    revert hD1 hS1 tm1 hW1
    generalize upd H' w (.lst (l.map fun p : Nat => V.int (p : Int))) = H1
    intro hD1 hS1 tm1 hW1
    have skip : p = 2 ∨ p ∈ rs.map (·.1) → N [some (.int (n : Int)), some (.ref d), some (.ref w), some (.int (p : Int)), o4, none, none] H1 := fun hsk => by
      refine hN _ _ _ ?_ ⟨rs, l, _, _, rfl, hD1, hW1, hS1, hnd, fun r hr => ⟨(hrow r hr).1, (hrow r hr).2.1, row_tm tm1 (hrow r hr).2.2⟩, fun r hr q hq => ?_, ?_, hl, ?_, by omega, by rw [List.length_append] at hwl; omega, rfl⟩
      · rw [sum_app]; simp; omega
      · rcases hcl r hr q hq with h | h | h
        · exact .inl h
        · exact .inr (.inl h)
        · rcases List.mem_append.mp h with h | h
          · exact .inr (.inr h)
          · rw [List.mem_singleton] at h
            rw [h]
            exact hsk.elim .inl fun h => .inr (.inl h)
      · rcases hn2 with h | h | h
        · exact .inl h
        · exact .inr (.inl h)
        · rcases List.mem_append.mp h with h | h
          · exact .inr (.inr h)
          · rw [List.mem_singleton] at h
            rw [h]
            exact hsk.elim .inl fun h => .inr (.inl h)
      · refine Nat.le_trans (Nat.mul_le_mul_left _ (Nat.le_mul_of_pos_right _ ?_)) hF2
        unfold fN
        split <;> omega
    by_cases e2 : (p : Int) = 2
    · rw [if_pos e2]
      exact skip (.inl (by omega))
    · rw [if_neg e2]
      refine ⟨d, _, rfl, .inl ⟨kvR rs, .inl (p : Int), .inl hD1, rfl, rfl⟩, ?_⟩
      rw [kvR_val]
      walk_at "z"
      by_cases hin : p ∈ rs.map (·.1)
      · rw [if_pos hin]
        exact skip (.inr hin)
      · rw [if_neg hin]
        walk_at "z"
        have hpo : p ≠ 2 := fun c => e2 (by omega)
        refine ⟨p - 1, by rw [show ((p - 1 : Nat) : Int) = (p : Int) - 1 by omega], by omega, by omega, fun T xs H2 s2 hT hPR => ?_⟩
        walk_at "z"
        obtain ⟨g, g1, g2, g3, g4⟩ := mk_ex hpw.1
        have hgd := ppN_good (show 1 ≤ p - 1 by omega)
        have hlen27 : (ppN (p - 1)).length < 27 := by
          have := len_le hgd.pr
          rw [hgd.prod] at this
          refine Nat.lt_of_not_le fun c => ?_
          have h20 := Nat.pow_le_pow_right (show 0 < 2 by decide) c
          omega
        have hlen : (ppN (p - 1)).length < 2 ^ 20 := by omega
        refine ⟨p, T, xs, ppN (p - 1), g, rfl, by omega, by omega, sqT_of hT, hPR, hlen, fun q hq => ⟨(hgd.pr q hq).1.1, ?_⟩, g1, g3, g4, fun H3 s3 => ?_⟩
        · have := (hgd.le (by omega) hq).2.1
          omega
        walk_at "z"
        refine ⟨by decide, fun t ht => ?_⟩
        have hD3 : upd H3 t (.tup [.int (p : Int), .int (g : Int), .ref T]) d = some (.dK (kvR rs)) := same_upd ht _ _ (s3 _ _ (s2 _ _ hD1))
        refine ⟨d, _, rfl, .inl ⟨kvR rs, .inl (p : Int), hD3, rfl, small_size (by simp [kvR]; omega), rfl⟩, ?_⟩
        rw [kvR_put (g := g) hin]
        have hdt : t ≠ d := Ne.symm (ne_of_none (s3 _ _ (s2 _ _ hD1)) ht)
        have hwt : w ≠ t := ne_of_none (s3 _ _ (s2 _ _ hW1)) ht
        have hD5 : upd (upd H3 t (.tup [.int (p : Int), .int (g : Int), .ref T])) d (.dK (kvR (rs ++ [(p, g, t)]))) d = some (.dK (kvR (rs ++ [(p, g, t)]))) := upd_same
        have hW5 : upd (upd H3 t (.tup [.int (p : Int), .int (g : Int), .ref T])) d (.dK (kvR (rs ++ [(p, g, t)]))) w = some (.lst (l.map fun p : Nat => V.int (p : Int))) := by
          rw [upd_ne (Ne.symm hdw), upd_ne hwt]; exact s3 _ _ (s2 _ _ hW1)
        have hS5 : Same H (upd (upd H3 t (.tup [.int (p : Int), .int (g : Int), .ref T])) d (.dK (kvR (rs ++ [(p, g, t)])))) := same_mut (same_new (hS1.trans (s2.trans s3)) ht) hd
        have put5 : TM (upd H3 t (.tup [.int (p : Int), .int (g : Int), .ref T])) (upd (upd H3 t (.tup [.int (p : Int), .int (g : Int), .ref T])) d (.dK (kvR (rs ++ [(p, g, t)])))) := TM.put fun ys c => by rw [hD3] at c; cases c
        have tm5 : TM H1 (upd (upd H3 t (.tup [.int (p : Int), .int (g : Int), .ref T])) d (.dK (kvR (rs ++ [(p, g, t)])))) := (TM.of ((s2.trans s3).trans (same_upd ht))).trans put5
        have ht5 : upd (upd H3 t (.tup [.int (p : Int), .int (g : Int), .ref T])) d (.dK (kvR (rs ++ [(p, g, t)]))) t = some (.tup [.int (p : Int), .int (g : Int), .ref T]) := put5 _ _ upd_same
        have hT5 : upd (upd H3 t (.tup [.int (p : Int), .int (g : Int), .ref T])) d (.dK (kvR (rs ++ [(p, g, t)]))) T = some (.tup xs) := put5 _ _ (same_upd ht _ _ (s3 _ _ hT))
        have hPR5 : PR (upd (upd H3 t (.tup [.int (p : Int), .int (g : Int), .ref T])) d (.dK (kvR (rs ++ [(p, g, t)])))) xs (ppN (p - 1)) := ((hPR.same s3).same (same_upd ht)).mono put5
        revert hD5 hW5 hS5 tm5 ht5 hT5 hPR5
        generalize upd (upd H3 t (.tup [.int (p : Int), .int (g : Int), .ref T])) d (.dK (kvR (rs ++ [(p, g, t)]))) = H5
        intro hD5 hW5 hS5 tm5 ht5 hT5 hPR5
        have hxl : xs.length = (ppN (p - 1)).length := hPR.len
        refine ⟨tyL hW5, T, rfl, ⟨xs, sqT_of hT5⟩, comp_T (sqT_of hT5) (fun i => ((ppN (p - 1))[i]?).map fun q => V.int (q.1 : Int)) (by omega) (fun i x Hc hx sc Qo hQo => ?_) (fun D H6 s6 hD6 => ?_)⟩
        · obtain ⟨q, tt, h1, rfl, h3⟩ := PR.get (hPR5.same sc) hx
          walk_at "z"
          refine ⟨_, sqT_of h3, rfl, ?_⟩
          walk_at "z"
          have := hQo Hc (Same.refl _)
          rw [h1] at this
          exact this
        · rw [outL_get (ppN (p - 1)) _ hxl] at hD6
          have hll : l.length ≤ l.sum := len_sum fun x hx => by have := (hl x hx).1.1; omega
          refine ⟨w, D, _, _, rfl, rfl, s6 _ _ hW5, hD6, by simp; exact Nat.le_of_lt (small_size (show l.length + (ppN (p - 1)).length < 2 ^ 22 by rw [List.length_append] at hwl; omega)), ?_⟩
          have put7 : TM H6 (upd H6 w (.lst ((l.map fun p : Nat => V.int (p : Int)) ++ (ppN (p - 1)).map fun q => V.int (q.1 : Int)))) := TM.put fun ys c => by rw [s6 _ _ hW5] at c; cases c
          have tm7 := (tm1.trans tm5).trans ((TM.of s6).trans put7)
          obtain ⟨st1, st2⟩ := prF_step hpw.1 hpo
          refine hN _ _ _ ?_ ⟨rs ++ [(p, g, t)], l ++ (ppN (p - 1)).map (·.1), _, _, rfl, by rw [upd_ne hdw]; exact s6 _ _ hD5, by rw [upd_same]; simp, same_mut (hS5.trans s6) hw0, ?_, fun r hr => ?_, fun r hr q hqq => ?_, ?_, fun x hx => ?_, ?_, ?_, ?_, rfl⟩
          · rw [sum_app, sum_app]; simp; omega
          · rw [List.map_append, List.map_cons, List.map_nil]
            refine List.pairwise_append.mpr ⟨hnd, by simp, fun a ha b hb => ?_⟩
            rw [List.mem_singleton] at hb
            rw [hb]
            exact fun c => hin (by have c2 : a = p := c; rw [← c2]; exact ha)
          · rcases List.mem_append.mp hr with hr | hr
            · exact ⟨(hrow r hr).1, (hrow r hr).2.1, row_tm tm7 (hrow r hr).2.2⟩
            · rw [List.mem_singleton] at hr
              subst hr
              refine ⟨⟨hpw.1, hpo, g1, g2, g3⟩, hpw.2, T, xs, put7 _ _ (s6 _ _ ht5), put7 _ _ (s6 _ _ hT5), (hPR5.same s6).mono put7⟩
          · rw [List.map_append, List.mem_append, List.mem_append]
            rcases List.mem_append.mp hr with hr | hr
            · rcases hcl r hr q hqq with h | h | h
              · exact .inl h
              · exact .inr (.inl (.inl h))
              · rcases List.mem_append.mp h with h | h
                · exact .inr (.inr (.inl h))
                · rw [List.mem_singleton] at h
                  exact .inr (.inl (.inr (by simp [h])))
            · rw [List.mem_singleton] at hr
              subst hr
              exact .inr (.inr (.inr (List.mem_map.mpr ⟨q, hqq, rfl⟩)))
          · rw [List.map_append, List.mem_append, List.mem_append]
            rcases hn2 with h | h | h
            · exact .inl h
            · exact .inr (.inl (.inl h))
            · rcases List.mem_append.mp h with h | h
              · exact .inr (.inr (.inl h))
              · rw [List.mem_singleton] at h
                exact .inr (.inl (.inr (by simp [h])))
          · rcases List.mem_append.mp hx with hx | hx
            · exact hl x hx
            · obtain ⟨q, hqq, rfl⟩ := List.mem_map.mp hx
              have := (hgd.le (by omega) hqq).2.1
              exact ⟨(hgd.pr q hqq).1, by omega⟩
          · rw [prF_app, List.length_append, List.length_singleton, Nat.pow_succ]
            refine Nat.le_trans ?_ hF2
            rw [Nat.mul_assoc]
            refine Nat.mul_le_mul_left _ ?_
            rw [Nat.mul_left_comm]
            exact Nat.mul_le_mul_left _ st1
          · rw [sum_app]; omega
          · rw [List.length_append, List.length_append, List.length_map, List.length_singleton]; rw [List.length_append, List.length_singleton] at hwl; omega
theorem ok_prime_paper {P : Program} {w : World} {K : PySem.W.Frag} {mg : Str → Option Value} {base : Heap} (T : Tx K mg) : Okk P w K mg base 3 "prime_paper" ["number"] (sp_prime_paper K) := by
  obtain ⟨fd_prime_powers, F_prime_powers, b_prime_powers, g_prime_powers, k_prime_powers⟩ := ok_prime_powers (P := P) (w := w) (base := base) T
  obtain ⟨fd_least_maker_by, F_least_maker_by, b_least_maker_by, g_least_maker_by, k_least_maker_by⟩ := ok_least_maker_by (P := P) (w := w) (base := base) T
  have hf_sorted := T.n_sorted
  have hf_tuple := T.n_tuple
  obtain ⟨fd, F⟩ := T.f_prime_paper
  refine ⟨fd, F.ok sc_prime_paper (fun vs H Q E h => len_prime_paper h) (fun cdv A outer s H vs Q E hr h => ⟨t_prime_paper K, PSs.nox ?_, pure_prime_paper K vs H Q E h⟩), F.bindsN (fun _ _ _ _ _ _ us hl => match us, hl with | [_], _ => rfl), T.g_prime_paper, F.kp⟩
  exact (pss_cons (ps_set (i := 1) sc_prime_paper.nd rfl (by first | exact Or.inl rfl | exact Or.inr rfl) pe_dnewK)
      (pss_cons (ps_set (i := 2) sc_prime_paper.nd rfl (by first | exact Or.inl rfl | exact Or.inr rfl) (pe_lst (pa_cons (pv 0) pa_nil)))
      (pss_cons (ps_while PassesOwn.never (pt_tru rfl (pv 2) (fun _ => rfl)) (pss_cons (ps_set (i := 3) sc_prime_paper.nd rfl (by first | exact Or.inl rfl | exact Or.inr rfl) (pe_bm0 PySem.F.plainAttrs_list PySem.F.slot_list_pop PySem.F.type_list_pop mt_pop (pv 2)))
      (pss_cons (ps_if (PW.pt (pw_or (pt_cmpR op_eq (pv 3) pe_int (nomark _)) (pw_or1 (pt_cmp (pc_din (hu_of hr) (pv 3) (pv 1)) rfl)))) (pss_one ps_continue) pss_nil)
      (pss_cons (ps_set (i := 4) sc_prime_paper.nd rfl (by first | exact Or.inl rfl | exact Or.inr rfl) (pe_call F_prime_powers (hr.mono (by decide)) rfl g_prime_powers k_prime_powers b_prime_powers .nil pass0 (pa_cons (pe_op op_sub (pv 3) pe_int) pa_nil)))
      (pss_cons (ps_dput (hu_of hr) (pv 1) (pv 3) (pe_tup (pa_cons (pv 3) (pa_cons (pe_call F_least_maker_by (hr.mono (by decide)) rfl g_least_maker_by k_least_maker_by b_least_maker_by .nil pass0 (pa_cons (pv 3) (pa_cons (pv 4) pa_nil))) (pa_cons (pv 4) pa_nil)))) rfl)
      (pss_one (ps_expr (pe_bm PySem.F.plainAttrs_list PySem.F.slot_list_extend PySem.F.type_list_extend mt_extend (pv 2) (pa_cons (pe_lc (own := [("part", 5), ("_", 6)]) (g := (gTup K 2 (gCons (gName 5) (gCons (gName 6) gNil)))) (tt := tYes) rfl sc_prime_paper.nd (pi_tup (pv 4)) (blkOk_by (own := [("part", 5), ("_", 6)]) (N := ["number", "rows", "waiting", "prime", "parts", "part", "_"]) (sc := defScope s_prime_paper) (by decide +kernel)) (fun _ _ _ _ _ => (pg_tup rfl (pgs_cons (pg_name (i := 5) sc_prime_paper.nd rfl (by first | exact Or.inl rfl | exact Or.inr rfl)) (pgs_cons (pg_name (i := 6) sc_prime_paper.nd rfl (by first | exact Or.inl rfl | exact Or.inr rfl)) pgs_nil)))) (fun _ _ _ _ _ => pts_nil) (fun _ _ _ _ _ => (pv 5))) pa_nil)))))))))
      (pss_one (ps_ret (pe_callTy call_tuple_of (by rfl) hf_tuple (by decide +kernel) (pa_cons (pe_lc (own := [("prime", 3)]) (g := (gName 3)) (tt := tYes) rfl sc_prime_paper.nd (pi_list (pe_callB (cr_sortedDI rfl) (by rfl) hf_sorted (by decide +kernel) (pa_cons (pv 1) pa_nil))) (blkOk_by (own := [("prime", 3)]) (N := ["number", "rows", "waiting", "prime", "parts", "part", "_"]) (sc := defScope s_prime_paper) (by decide +kernel)) (fun _ _ _ _ _ => (pg_name (i := 3) sc_prime_paper.nd rfl (by first | exact Or.inl rfl | exact Or.inr rfl))) (fun _ _ _ _ _ => pts_nil) (fun _ _ _ _ _ => (pe_dget (hu_of hr) (pv 1) (pv 3) (fun _ _ => rfl)))) pa_nil)))))))
/-! ### prime_answer -/
theorem sc_prime_answer : FnScope ["number", "divisor"] ["number"] (defScope s_prime_answer) := ⟨rfl, rfl, rfl, by decide +kernel, rfl, by decide +kernel, by decide +kernel⟩
def sp_prime_answer (K : PySem.W.Frag) : Sp := fun vs H Q _ => ∃ n : Nat, vs = [.int (n : Int)] ∧ 2 ≤ n ∧ n ≤ 10 ^ 8 ∧
  (PrimeN n → ∀ A C T xs rs H', Same H H' → H' A = some (.tup [.ref C, .ref T]) → H' C = some (.tup [.str "prime", .int (n : Int)]) → H' T = some (.tup xs) → PaperOk H' n xs rs → Q (.ref A) H') ∧
  (¬ PrimeN n → ∀ A C T (q r : Nat) H', Same H H' → 2 ≤ q → 2 ≤ r → q * r = n → (∀ k, 2 ≤ k → k < q → ¬ k ∣ n) → H' A = some (.tup [.ref C, .ref T]) → H' C = some (.tup [.str "split", .int (n : Int)]) → H' T = some (.tup [.int (q : Int), .int (r : Int)]) → Q (.ref A) H')
theorem len_prime_answer {K : PySem.W.Frag} {vs : List V} {H : Hp} {Q : VK} {E : XK} (h : sp_prime_answer K vs H Q E) : vs.length = ["number"].length := by
  obtain ⟨_, rfl, _⟩ := h
  rfl
def t_prime_answer (K : PySem.W.Frag) : TS := (tSeq (tDrop (tCall (sp_check_between K) [] E0 (tCons (tVar 0) (tCons (tC (.int 2)) (tCons (tC (.int 100000000)) tNil)))))
  (tSeq (tAsg (tCall (sp_least_divisor K) [] E0 (tCons (tVar 0) tNil)) (gName 1))
  (tSeq (tIfS (tTest (tOp rEq (tVar 1) (tVar 0))) (tRet (tTup (tCons (tTup (tCons (tC (.str "prime")) (tCons (tVar 0) tNil))) (tCons (tCall (sp_prime_paper K) [] E0 (tCons (tVar 0) tNil)) tNil)))) tNext)
  (tRet (tTup (tCons (tTup (tCons (tC (.str "split")) (tCons (tVar 0) tNil))) (tCons (tTup (tCons (tVar 1) (tCons (tOp rDivU (tVar 0) (tVar 1)) tNil))) tNil)))))))
theorem primeN_of {p : Nat} (h : PrimeI p) : PrimeN p := ⟨by have := h.1; omega, fun k a b c => h.2 k (by omega) (by omega) (Int.natCast_dvd_natCast.mpr c)⟩
theorem primeI_of {p : Nat} (h : PrimeN p) : PrimeI p := ⟨by have := h.1; omega, fun k a b c => by
  obtain ⟨j, rfl⟩ : ∃ j : Nat, k = j := ⟨k.toNat, by omega⟩
  exact h.2 j (by omega) (by omega) (Int.natCast_dvd_natCast.mp c)⟩
theorem pure_prime_answer (K : PySem.W.Frag) (vs : List V) (H : Hp) (Q : VK) (E : XK) (h : sp_prime_answer K vs H Q E) : t_prime_answer K { nx := fun _ H' => Q .non H', rt := Q } (start ["number", "divisor"] vs) H := by
  obtain ⟨n, rfl, h2, hn, hq1, hq2⟩ := h
  unfold t_prime_answer
  walk_at "z"
  refine ⟨_, _, _, rfl, by omega, by omega, ?_⟩
  walk_at "z"
  refine ⟨_, rfl, by omega, by omega, fun d hd hdn => ?_⟩
  walk_at "z"
  obtain ⟨q, rfl⟩ : ∃ q : Nat, d = q := ⟨d.toNat, by have := hd.1; omega⟩
  have q2 : 2 ≤ q := by have := hd.1; omega
  have hlow : ∀ k, 2 ≤ k → k < q → ¬ k ∣ n := fun k a b c => hd.2.2 k (by omega) (by omega) (Int.natCast_dvd_natCast.mpr c)
  by_cases e : (q : Int) = (n : Int)
  · rw [if_pos e]
    obtain rfl : q = n := by omega
    have hp : PrimeN q := ⟨h2, hlow⟩
    walk_at "z"
    refine ⟨by decide, fun C hC => ?_⟩
    refine ⟨q, rfl, hp, hn, fun T xs rs H2 s2 hT hP => ?_⟩
    walk_at "z"
    refine ⟨by decide, fun A hA => ?_⟩
    have sA := same_upd (o := .tup [V.ref C, V.ref T]) hA
    refine hq1 hp A C T xs rs _ ((same_upd hC).trans (s2.trans sA)) upd_same (sA _ _ (s2 _ _ upd_same)) (sA _ _ hT) ?_
    exact ⟨paired_map hP.vs fun v r ⟨a, T, xs, e, a1, a2, a3⟩ => ⟨a, T, xs, e, sA _ _ a1, sA _ _ a2, a3.same sA⟩, hP.asc, hP.ok, hP.closed, hP.two, hP.top, hP.len⟩
  · rw [if_neg e]
    walk_at "z"
    obtain ⟨r, hr⟩ : q ∣ n := Int.natCast_dvd_natCast.mp hd.2.1
    have hr2 : 2 ≤ r := by
      refine Classical.byContradiction fun c => ?_
      rcases (show r = 0 ∨ r = 1 by omega) with h | h
      · rw [h] at hr; omega
      · rw [h] at hr; omega
    have hnp : ¬ PrimeN n := fun hp => hp.2 q q2 (by omega) ⟨r, hr⟩
    have edv : ((n : Int) / (q : Int)) = (r : Int) := by rw [hr]; push_cast; rw [Int.mul_ediv_cancel_left _ (by omega)]
    rw [edv]
    refine ⟨by decide, fun C hC => ⟨divS (by omega) (by omega), by decide, fun T hT => ⟨by decide, fun A hA => ?_⟩⟩⟩
    refine hq2 hnp A C T q r _ (((same_upd hC).trans (same_upd hT)).trans (same_upd hA)) q2 hr2 hr.symm hlow upd_same ?_ ?_
    · exact same_upd hA _ _ (same_upd hT _ _ upd_same)
    · exact same_upd hA _ _ upd_same

theorem ok_prime_answer {P : Program} {w : World} {K : PySem.W.Frag} {mg : Str → Option Value} {base : Heap} (T : Tx K mg) : Okk P w K mg base 4 "prime_answer" ["number"] (sp_prime_answer K) := by
  obtain ⟨fd_least_divisor, F_least_divisor, b_least_divisor, g_least_divisor, k_least_divisor⟩ := ok_least_divisor (P := P) (w := w) (base := base) T
  obtain ⟨fd_check_between, F_check_between, b_check_between, g_check_between, k_check_between⟩ := ok_check_between (P := P) (w := w) (base := base) T
  obtain ⟨fd_prime_paper, F_prime_paper, b_prime_paper, g_prime_paper, k_prime_paper⟩ := ok_prime_paper (P := P) (w := w) (base := base) T
  obtain ⟨_, hc_MOST⟩ := T.c_MOST
  obtain ⟨fd, F⟩ := T.f_prime_answer
  refine ⟨fd, F.ok sc_prime_answer (fun vs H Q E h => len_prime_answer h) (fun cdv A outer s H vs Q E hr h => ⟨t_prime_answer K, PSs.nox ?_, pure_prime_answer K vs H Q E h⟩), F.bindsN (fun _ _ _ _ _ _ us hl => match us, hl with | [_], _ => rfl), T.g_prime_answer, F.kp⟩
  exact (pss_cons (ps_expr (pe_call F_check_between (hr.mono (by decide)) rfl g_check_between k_check_between b_check_between .nil pass0 (pa_cons (pv 0) (pa_cons pe_int (pa_cons (pe_glob rfl hc_MOST ⟨_, rfl⟩) pa_nil)))))
      (pss_cons (ps_set (i := 1) sc_prime_answer.nd rfl (by first | exact Or.inl rfl | exact Or.inr rfl) (pe_call F_least_divisor (hr.mono (by decide)) rfl g_least_divisor k_least_divisor b_least_divisor .nil pass0 (pa_cons (pv 0) pa_nil)))
      (pss_cons (ps_if (pt_cmpR op_eq (pv 1) (pv 0) (nomark _)) (pss_one (ps_ret (pe_tup (pa_cons (pe_tup (pa_cons pe_str (pa_cons (pv 0) pa_nil))) (pa_cons (pe_call F_prime_paper (hr.mono (by decide)) rfl g_prime_paper k_prime_paper b_prime_paper .nil pass0 (pa_cons (pv 0) pa_nil)) pa_nil))))) pss_nil)
      (pss_one (ps_ret (pe_tup (pa_cons (pe_tup (pa_cons pe_str (pa_cons (pv 0) pa_nil))) (pa_cons (pe_tup (pa_cons (pv 1) (pa_cons (pe_op op_fdivW (pv 0) (pv 1)) pa_nil))) pa_nil))))))))
/-! dice -/
def Dice (H : Hp) (d : Addr) : Prop := ∃ a b c : Int, H d = some (.lst [.int a, .int b, .int c])
theorem Keep.refl (d : Addr) (H : Hp) : Keep d H H := fun _ _ _ h => h
theorem Keep.trans {d : Addr} {H H1 H2 : Hp} (a : Keep d H H1) (b : Keep d H1 H2) : Keep d H H2 := fun c o n h => b c o n (a c o n h)
theorem Keep.put {d : Addr} {H H1 : Hp} {o : HO} (a : Keep d H H1) : Keep d H (L2.upd H1 d o) := fun b u n h => by rw [upd_ne n]; exact a b u n h
theorem Keep.same {d : Addr} {H H1 H2 : Hp} (a : Keep d H H1) (b : Same H1 H2) : Keep d H H2 := fun c o n h => b c o (a c o n h)
theorem Dice.same {d : Addr} {H H1 : Hp} (a : Dice H d) (b : Same H H1) : Dice H1 d := by
  obtain ⟨x, y, z, h⟩ := a
  exact ⟨x, y, z, b _ _ h⟩
theorem Keep.new {d p : Addr} {H H1 : Hp} {o : HO} (a : Keep d H H1) (hp : H1 p = none) : Keep d H (L2.upd H1 p o) := a.same (same_upd hp)
/-- a list of dice made on the way is nothing of the old heap -/
theorem Keep.out {d : Addr} {H0 H H1 : Hp} (s : Same H0 H) (n : H0 d = none) (a : Keep d H H1) : Same H0 H1 := fun b o h => a b o (ne_of_none h n) (s b o h)
theorem cpow {i j : Int} (h : 0 ≤ j ∧ j ≤ 1000000 ∧ i.natAbs < 2 ^ 64) : CPow i j := h
theorem divM {i m : Int} (h : 0 < m) (h2 : m < 2 ^ 250) : CDivW i m := wide_div (b := 250) h (by omega) (by decide) (by decide)
theorem atI_nat {α : Type} {xs : List α} {i : Nat} {x : α} (h : xs[i]? = some x) : atI xs (i : Int) = some x := by
  have hl := (List.getElem?_eq_some_iff.mp h).1
  unfold atI ixN
  rw [if_pos (by omega), if_pos (by omega)]
  exact h
theorem keep_new {H : Hp} {b p : Addr} {u o : HO} (h : H b = some u) (hn : H p = none) : upd H p o b = some u := by
  rw [upd_ne (ne_of_none h hn)]; exact h
local macro_rules | `(tactic| walk_at "at") => `(tactic| (repeat (first | exact upd_same | refine keep_new ?_ (by assumption))))
local macro_rules | `(tactic| walk_at "same") => `(tactic| (repeat (first | exact Same.refl _ | refine same_new ?_ (by assumption))))
/-! ### _law_dice -/
theorem sc__law_dice : FnScope ["script", "spot", "cell", "left"] ["script", "spot"] (defScope s__law_dice) := ⟨rfl, rfl, rfl, by decide +kernel, rfl, by decide +kernel, by decide +kernel⟩
def sp__law_dice (K : PySem.W.Frag) : Sp := fun vs H Q _ => ∃ (a : Addr) (ns : List Int) (spot : Nat), vs = [.ref a, .int (spot : Int)] ∧ SqL K H a (ns.map V.int) ∧
  ∀ D H', H D = none → Same H H' → Dice H' D → Q (.ref D) H'
theorem len__law_dice {K : PySem.W.Frag} {vs : List V} {H : Hp} {Q : VK} {E : XK} (h : sp__law_dice K vs H Q E) : vs.length = ["script", "spot"].length := by
  obtain ⟨_, _, _, rfl, _⟩ := h
  rfl
def t__law_dice (K : PySem.W.Frag) : TS := (tSeq (tAsg (tIf (tTest (tOp rLtI (tVar 1) (tCB (rLenU K) (tCons (tVar 0) tNil)))) (tCB (rInt1) (tCons (tOp (rIxA K) (tVar 0) (tVar 1)) tNil)) (tOp rAdd (tOp rMulU (tC (.int 97)) (tVar 1)) (tC (.int 59)))) (gName 2))
  (tSeq (tAsg (tOp rModU (tCB (rMax2) (tCons (tC (.int 0)) (tCons (tOp rSub (tCB (rAbs) (tCons (tVar 2) tNil)) (tOp rPowU (tC (.int 10)) (tC (.int 16)))) tNil))) (tOp rMulU (tOp rPowU (tC (.int 10)) (tC (.int 58))) (tOp rPowU (tC (.int 10)) (tC (.int 60))))) (gName 3))
  (tRet (tLst (tCons (tVar 3) (tCons (tOp rAdd (tOp rAdd (tOp rAdd (tOp rMulU (tOp rModU (tCB (rAbs) (tCons (tVar 2) tNil)) (tC (.int 1152921504606846733))) (tC (.int 83))) (tOp rMulU (tC (.int 1033)) (tVar 1))) (tOp rMulU (tC (.int 61)) (tCB (rInt1) (tCons (tOp rLtI (tVar 2) (tC (.int 0))) tNil)))) (tC (.int 29))) (tCons (tC (.int 0)) tNil)))))))
theorem big_mul : CMul (10 ^ (58 : Int).toNat) (10 ^ (60 : Int).toNat) ∨ CMulW (10 ^ (58 : Int).toNat) (10 ^ (60 : Int).toNat) :=
  .inr (wide_mul (a := 200) (b := 210) (by decide) (by decide) (by decide) (by decide) (by decide))
theorem pure__law_dice (K : PySem.W.Frag) (vs : List V) (H : Hp) (Q : VK) (E : XK) (h : sp__law_dice K vs H Q E) : t__law_dice K { nx := fun _ H' => Q .non H', rt := Q } (start ["script", "spot", "cell", "left"] vs) H := by
  obtain ⟨a, ns, spot, rfl, hS, hq⟩ := h
  unfold t__law_dice
  walk_at "z"
  refine lenL hS ?_
  walk_at "z"
  by_cases hs : (spot : Int) < ((ns.map V.int).length : Int)
  · rw [if_pos hs]
    have hs2 : spot < ns.length := by simpa using hs
    refine ixL hS (v := .int ns[spot]) (atI_nat (by simp [hs2])) ?_
    walk_at "z"
    refine ⟨cpow (by decide), cpow (by decide), cpow (by decide), big_mul, by decide, by decide, mulR (by decide), mulS (by decide), mulS (by decide), by decide, fun p hp => ?_⟩
    exact hq p _ hp (same_upd hp) ⟨_, _, _, upd_same⟩
  · rw [if_neg hs]
    refine ⟨mulS (by decide), cpow (by decide), cpow (by decide), cpow (by decide), big_mul, by decide, by decide, mulR (by decide), mulS (by decide), mulS (by decide), by decide, fun p hp => ?_⟩
    exact hq p _ hp (same_upd hp) ⟨_, _, _, upd_same⟩
theorem ok__law_dice {P : Program} {w : World} {K : PySem.W.Frag} {mg : Str → Option Value} {base : Heap} (T : Tx K mg) : Okk P w K mg base 1 "_law_dice" ["script", "spot"] (sp__law_dice K) := by
  have hf_abs := T.n_abs
  have hf_int := T.n_int
  have hf_len := T.n_len
  have hf_max := T.n_max
  obtain ⟨fd, F⟩ := T.f__law_dice
  refine ⟨fd, F.ok sc__law_dice (fun vs H Q E h => len__law_dice h) (fun cdv A outer s H vs Q E hr h => ⟨t__law_dice K, PSs.nox ?_, pure__law_dice K vs H Q E h⟩), F.bindsN (fun _ _ _ _ _ _ us hl => match us, hl with | [_, _], _ => rfl), T.g__law_dice, F.kp⟩
  exact (pss_cons (ps_set (i := 2) sc__law_dice.nd rfl (by first | exact Or.inl rfl | exact Or.inr rfl) (pe_ifExp (pt_cmpR op_lt (pv 1) (pe_callB call_len_seq (by rfl) hf_len (by decide +kernel) (pa_cons (pv 0) pa_nil)) (nomark _)) (pe_callTy call_int1 (by rfl) hf_int (by decide +kernel) (pa_cons (pe_ix ix_lt (pv 0) (pv 1) (fun _ _ => rfl)) pa_nil)) (pe_op op_add (pe_op op_mulU pe_int (pv 1)) pe_int)))
      (pss_cons (ps_set (i := 3) sc__law_dice.nd rfl (by first | exact Or.inl rfl | exact Or.inr rfl) (pe_op op_mod (pe_callB (call_max2 rfl) (by rfl) hf_max (by decide +kernel) (pa_cons pe_int (pa_cons (pe_op op_sub (pe_callB call_abs (by rfl) hf_abs (by decide +kernel) (pa_cons (pv 2) pa_nil)) (pe_op op_pow pe_int pe_int)) pa_nil))) (pe_op op_mulU (pe_op op_pow pe_int pe_int) (pe_op op_pow pe_int pe_int))))
      (pss_one (ps_ret (pe_lst (pa_cons (pv 3) (pa_cons (pe_op op_add (pe_op op_add (pe_op op_add (pe_op op_mulU (pe_op op_mod (pe_callB call_abs (by rfl) hf_abs (by decide +kernel) (pa_cons (pv 2) pa_nil)) pe_int) pe_int) (pe_op op_mulU pe_int (pv 1))) (pe_op op_mulU pe_int (pe_callTy call_int1 (by rfl) hf_int (by decide +kernel) (pa_cons (pe_cmpR op_lt (pv 2) pe_int (nomark _)) pa_nil)))) pe_int) (pa_cons pe_int pa_nil))))))))
/-! ### _law_roll -/
theorem sc__law_roll : FnScope ["dice", "most", "found", "one", "two"] ["dice", "most"] (defScope s__law_roll) := ⟨rfl, rfl, rfl, by decide +kernel, rfl, by decide +kernel, by decide +kernel⟩
def sp__law_roll (K : PySem.W.Frag) : Sp := fun vs H Q _ => ∃ (d : Addr) (most : Int), vs = [.ref d, .int most] ∧ Dice H d ∧ 0 < most ∧ most < 2 ^ 250 ∧ ∀ r H', 0 ≤ r → r < most → Keep d H H' → Dice H' d → Q (.int r) H'
theorem len__law_roll {K : PySem.W.Frag} {vs : List V} {H : Hp} {Q : VK} {E : XK} (h : sp__law_roll K vs H Q E) : vs.length = ["dice", "most"].length := by
  obtain ⟨_, _, rfl, _⟩ := h
  rfl
def t__law_roll (K : PySem.W.Frag) : TS := (tSeq (tIfS (tTest (tOp rGtI (tOp (rIxA K) (tVar 0) (tC (.int 0))) (tC (.int 0)))) (tSeq (tAsg (tOp rModU (tCB (rInt1) (tCons (tOp (rIxA K) (tVar 0) (tC (.int 0))) tNil)) (tVar 1)) (gName 2))
  (tSeq (tAsg (tOp rDivU (tOp (rIxA K) (tVar 0) (tC (.int 0))) (tVar 1)) (gSub (tVar 0) (tC (.int 0)) rSetL))
  (tRet (tVar 2)))) tNext)
  (tSeq (tAsg (tOp rAdd (tOp (rIxA K) (tVar 0) (tC (.int 2))) (tC (.int 1))) (gSub (tVar 0) (tC (.int 2)) rSetL))
  (tSeq (tAsg (tOp rModU (tCB (rInt1) (tCons (tOp rAdd (tOp (rIxA K) (tVar 0) (tC (.int 1))) (tOp rMulU (tC (.int 86028121)) (tOp (rIxA K) (tVar 0) (tC (.int 2))))) tNil)) (tC (.int 2305843009213693561))) (gName 3))
  (tSeq (tAsg (tOp rModU (tCB (rInt1) (tCons (tOp rAdd (tOp rMulU (tVar 3) (tVar 3)) (tOp rMulU (tC (.int 103)) (tOp (rIxA K) (tVar 0) (tC (.int 2))))) tNil)) (tC (.int 2305843009213693669))) (gName 4))
  (tRet (tOp rModU (tCB (rInt1) (tCons (tOp rDivU (tOp rAdd (tOp rMulU (tVar 4) (tC (.int 7654321))) (tVar 3)) (tC (.int 65557))) tNil)) (tVar 1)))))))
theorem pure__law_roll (K : PySem.W.Frag) (vs : List V) (H : Hp) (Q : VK) (E : XK) (h : sp__law_roll K vs H Q E) : t__law_roll K { nx := fun _ H' => Q .non H', rt := Q } (start ["dice", "most", "found", "one", "two"] vs) H := by
  obtain ⟨d, most, rfl, ⟨a, b, c, hD⟩, h0, h1, hq⟩ := h
  unfold t__law_roll
  walk_at "z"
  refine ixL (sqL_of hD) rfl ?_
  walk_at "z"
  by_cases ha : 0 < a
  · rw [if_pos ha]
    refine ixL (sqL_of hD) rfl ?_
    walk_at "z"
    refine ⟨h0, ixL (sqL_of hD) rfl ?_⟩
    walk_at "z"
    refine ⟨divM h0 h1, setL hD rfl ?_⟩
    walk_at "z"
    exact hq _ _ (Int.emod_nonneg _ (by omega)) (Int.emod_lt_of_pos _ h0) (Keep.refl d H).put ⟨_, _, _, upd_same⟩
  · rw [if_neg ha]
    refine ixL (sqL_of hD) rfl ?_
    walk_at "z"
    refine setL hD rfl ?_
    walk_at "z"
    refine ixL (sqL_of upd_same) rfl ?_
    walk_at "z"
    refine ixL (sqL_of upd_same) rfl ?_
    walk_at "z"
    have e := Int.emod_nonneg (b + 86028121 * (c + 1)) (show (2305843009213693561 : Int) ≠ 0 by decide)
    have e2 := Int.emod_lt_of_pos (b + 86028121 * (c + 1)) (show (0 : Int) < 2305843009213693561 by decide)
    refine ⟨mulS (by decide), by decide, mulS (by omega), ixL (sqL_of upd_same) rfl ?_⟩
    walk_at "z"
    refine ⟨mulS (by decide), by decide, mulR (by decide), divS (by decide) (by decide), h0, ?_⟩
    exact hq _ _ (Int.emod_nonneg _ (by omega)) (Int.emod_lt_of_pos _ h0) (Keep.refl d H).put ⟨_, _, _, upd_same⟩
theorem ok__law_roll {P : Program} {w : World} {K : PySem.W.Frag} {mg : Str → Option Value} {base : Heap} (T : Tx K mg) : Okk P w K mg base 1 "_law_roll" ["dice", "most"] (sp__law_roll K) := by
  have hf_int := T.n_int
  obtain ⟨fd, F⟩ := T.f__law_roll
  refine ⟨fd, F.ok sc__law_roll (fun vs H Q E h => len__law_roll h) (fun cdv A outer s H vs Q E hr h => ⟨t__law_roll K, PSs.nox ?_, pure__law_roll K vs H Q E h⟩), F.bindsN (fun _ _ _ _ _ _ us hl => match us, hl with | [_, _], _ => rfl), T.g__law_roll, F.kp⟩
  exact (pss_cons (ps_if (pt_cmpR op_gt (pe_ix ix_lt (pv 0) pe_int (fun _ _ => rfl)) pe_int (nomark _)) (pss_cons (ps_set (i := 2) sc__law_roll.nd rfl (by first | exact Or.inl rfl | exact Or.inr rfl) (pe_op op_mod (pe_callTy call_int1 (by rfl) hf_int (by decide +kernel) (pa_cons (pe_ix ix_lt (pv 0) pe_int (fun _ _ => rfl)) pa_nil)) (pv 1)))
      (pss_cons (ps_asg (pe_op op_fdivW (pe_ix ix_lt (pv 0) pe_int (fun _ _ => rfl)) (pv 1)) (pg_sub (pv 0) pe_int set_list))
      (pss_one (ps_ret (pv 2))))) pss_nil)
      (pss_cons (ps_asg (pe_op op_add (pe_ix ix_lt (pv 0) pe_int (fun _ _ => rfl)) pe_int) (pg_sub (pv 0) pe_int set_list))
      (pss_cons (ps_set (i := 3) sc__law_roll.nd rfl (by first | exact Or.inl rfl | exact Or.inr rfl) (pe_op op_mod (pe_callTy call_int1 (by rfl) hf_int (by decide +kernel) (pa_cons (pe_op op_add (pe_ix ix_lt (pv 0) pe_int (fun _ _ => rfl)) (pe_op op_mulU pe_int (pe_ix ix_lt (pv 0) pe_int (fun _ _ => rfl)))) pa_nil)) pe_int))
      (pss_cons (ps_set (i := 4) sc__law_roll.nd rfl (by first | exact Or.inl rfl | exact Or.inr rfl) (pe_op op_mod (pe_callTy call_int1 (by rfl) hf_int (by decide +kernel) (pa_cons (pe_op op_add (pe_op op_mulU (pv 3) (pv 3)) (pe_op op_mulU pe_int (pe_ix ix_lt (pv 0) pe_int (fun _ _ => rfl)))) pa_nil)) pe_int))
      (pss_one (ps_ret (pe_op op_mod (pe_callTy call_int1 (by rfl) hf_int (by decide +kernel) (pa_cons (pe_op op_fdivW (pe_op op_add (pe_op op_mulU (pv 4) pe_int) (pv 3)) pe_int) pa_nil)) (pv 1))))))))
/-! ### _law_pr_least -/
theorem sc__law_pr_least : FnScope ["number", "divisor"] ["number"] (defScope s__law_pr_least) := ⟨rfl, rfl, rfl, by decide +kernel, rfl, by decide +kernel, by decide +kernel⟩
def sp__law_pr_least (K : PySem.W.Frag) : Sp := fun vs H Q _ => ∃ n : Nat, vs = [.int (n : Int)] ∧ 2 ≤ n ∧ n < 100040004 ∧ ∀ d : Nat, 2 ≤ d → d ∣ n → (∀ k, 2 ≤ k → k < d → ¬ k ∣ n) → Q (.int (d : Int)) H
theorem len__law_pr_least {K : PySem.W.Frag} {vs : List V} {H : Hp} {Q : VK} {E : XK} (h : sp__law_pr_least K vs H Q E) : vs.length = ["number"].length := by
  obtain ⟨_, rfl, _⟩ := h
  rfl
def t__law_pr_least_f1_b (K : PySem.W.Frag) : TS := (tSeq (tIfS (tTest (tOp rGtI (tOp rMulU (tVar 1) (tVar 1)) (tVar 0))) (tRet (tVar 0)) tNext)
  (tIfS (tTest (tOp rEq (tOp rModU (tVar 0) (tVar 1)) (tC (.int 0)))) (tRet (tVar 1)) tNext))
def t__law_pr_least (K : PySem.W.Frag) : TS := (tSeq (tFor (iRng2 (tCons (tC (.int 2)) (tCons (tC (.int 10003)) tNil))) (gName 1) (t__law_pr_least_f1_b K))
  (tRet (tVar 0)))
theorem pure__law_pr_least (K : PySem.W.Frag) (vs : List V) (H : Hp) (Q : VK) (E : XK) (h : sp__law_pr_least K vs H Q E) : t__law_pr_least K { nx := fun _ H' => Q .non H', rt := Q } (start ["number", "divisor"] vs) H := by
  obtain ⟨n, rfl, h2, hn, hq⟩ := h
  unfold t__law_pr_least
  walk_at "z"
  refine ⟨_, _, rfl, by decide, for_R (fun i σ H' => ∃ o, σ = [some (.int (n : Int)), o] ∧ H' = H ∧ (∀ k, 2 ≤ k → k < 2 + i → ¬ k ∣ n) ∧ (i = 0 ∨ (i + 1) * (i + 1) ≤ n)) ⟨none, rfl, rfl, fun k a b => by omega, .inl rfl⟩ (fun i σ H' hi h N hN => ?_) (fun σ H' h => ?_)⟩
  · obtain ⟨o, rfl, rfl, hk, _⟩ := h
    unfold t__law_pr_least_f1_b
    walk_at "z"
    have hi2 : i < 10001 := hi
    refine ⟨mulS (by omega), ?_⟩
    have ee : ((2 : Int) + (i : Int)) * (2 + (i : Int)) = (((2 + i) * (2 + i) : Nat) : Int) := by push_cast; rfl
    rw [ee]
    by_cases c1 : (((2 + i) * (2 + i) : Nat) : Int) > (n : Int)
    · rw [if_pos c1]
      have c1 : n < (2 + i) * (2 + i) := by omega
      have hp := (prime_end (by omega) c1 hk).1
      exact hq n h2 (Nat.dvd_refl n) hp.2
    · rw [if_neg c1]
      have c1 : (2 + i) * (2 + i) ≤ n := by omega
      refine ⟨by omega, ?_⟩
      have em : ((n : Int) % (2 + (i : Int))) = ((n % (2 + i) : Nat) : Int) := by push_cast; rfl
      rw [em]
      by_cases c2 : ((n % (2 + i) : Nat) : Int) = 0
      · rw [if_pos c2]
        have := hq (2 + i) (by omega) (Nat.dvd_of_mod_eq_zero (by omega)) hk
        rwa [show (((2 + i : Nat)) : Int) = 2 + (i : Int) by push_cast; rfl] at this
      · rw [if_neg c2]
        refine hN _ _ ⟨_, rfl, rfl, fun k a b c => ?_, .inr ?_⟩
        · by_cases e : k = 2 + i
          · subst e
            exact c2 (by rw [Nat.mod_eq_zero_of_dvd c]; rfl)
          · exact hk k a (by omega) c
        · rw [show i + 1 + 1 = 2 + i by omega]; exact c1
  · obtain ⟨o, rfl, rfl, _, h3⟩ := h
    exfalso
    have e : ((10003 : Int) - 2).toNat = 10001 := rfl
    rw [e] at h3
    omega
theorem ok__law_pr_least {P : Program} {w : World} {K : PySem.W.Frag} {mg : Str → Option Value} {base : Heap} (T : Tx K mg) : Okk P w K mg base 1 "_law_pr_least" ["number"] (sp__law_pr_least K) := by
  have hf_range := T.n_range
  obtain ⟨fd, F⟩ := T.f__law_pr_least
  refine ⟨fd, F.ok sc__law_pr_least (fun vs H Q E h => len__law_pr_least h) (fun cdv A outer s H vs Q E hr h => ⟨t__law_pr_least K, PSs.nox ?_, pure__law_pr_least K vs H Q E h⟩), F.bindsN (fun _ _ _ _ _ _ us hl => match us, hl with | [_], _ => rfl), T.g__law_pr_least, F.kp⟩
  exact (pss_cons (ps_for PassesOwn.never rfl (pi_range2 rfl hf_range (pa_cons pe_int (pa_cons pe_int pa_nil))) (pg_name (i := 1) sc__law_pr_least.nd rfl (by first | exact Or.inl rfl | exact Or.inr rfl)) (pss_cons (ps_if (pt_cmpR op_gt (pe_op op_mulU (pv 1) (pv 1)) (pv 0) (nomark _)) (pss_one (ps_ret (pv 0))) pss_nil)
      (pss_one (ps_if (pt_cmpR op_eq (pe_op op_mod (pv 0) (pv 1)) pe_int (nomark _)) (pss_one (ps_ret (pv 1))) pss_nil))))
      (pss_one (ps_ret (pv 0))))
/-! ### _law_pr_power -/
theorem sc__law_pr_power : FnScope ["base", "exponent", "modulus", "found", "square", "left"] ["base", "exponent", "modulus"] (defScope s__law_pr_power) := ⟨rfl, rfl, rfl, by decide +kernel, rfl, by decide +kernel, by decide +kernel⟩
def sp__law_pr_power (K : PySem.W.Frag) : Sp := fun vs H Q _ => ∃ b e m : Int, vs = [.int b, .int e, .int m] ∧ 0 ≤ e ∧ 0 < m ∧ m < 2 ^ 60 ∧ Q (.int (b ^ e.toNat % m)) H
theorem len__law_pr_power {K : PySem.W.Frag} {vs : List V} {H : Hp} {Q : VK} {E : XK} (h : sp__law_pr_power K vs H Q E) : vs.length = ["base", "exponent", "modulus"].length := by
  obtain ⟨_, _, _, rfl, _⟩ := h
  rfl
def t__law_pr_power_w1_c (K : PySem.W.Frag) : TT := (tTest (tOp rGtI (tVar 5) (tC (.int 0))))
def t__law_pr_power_w1_b (K : PySem.W.Frag) : TS := (tSeq (tIfS (tTest (tOp rEq (tOp rModU (tVar 5) (tC (.int 2))) (tC (.int 1)))) (tAsg (tOp rModU (tCB (rInt1) (tCons (tOp rMulU (tVar 3) (tVar 4)) tNil)) (tVar 2)) (gName 3)) tNext)
  (tPar 4 5 (tCons (tOp rModU (tCB (rInt1) (tCons (tOp rMulU (tVar 4) (tVar 4)) tNil)) (tVar 2)) (tCons (tOp rDivU (tVar 5) (tC (.int 2))) tNil))))
def t__law_pr_power (K : PySem.W.Frag) : TS := (tSeq (tPar3 3 4 5 (tCons (tOp rModU (tC (.int 1)) (tVar 2)) (tCons (tOp rModU (tCB (rInt1) (tCons (tVar 0) tNil)) (tVar 2)) (tCons (tVar 1) tNil))))
  (tSeq (tWhile (t__law_pr_power_w1_c K) (t__law_pr_power_w1_b K))
  (tRet (tVar 3))))
theorem pure__law_pr_power (K : PySem.W.Frag) (vs : List V) (H : Hp) (Q : VK) (E : XK) (h : sp__law_pr_power K vs H Q E) : t__law_pr_power K { nx := fun _ H' => Q .non H', rt := Q } (start ["base", "exponent", "modulus", "found", "square", "left"] vs) H := by
  obtain ⟨b, e, m, rfl, he, hm, hm2, hq⟩ := h
  unfold t__law_pr_power
  walk_at "z"
  refine ⟨hm, hm, ?_⟩
  refine while_of (fun μ σ H' => ∃ r x ee : Int, σ = [some (.int b), some (.int e), some (.int m), some (.int r), some (.int x), some (.int ee)] ∧ H' = H ∧ 0 ≤ ee ∧ μ = ee.toNat ∧ 0 ≤ r ∧ r < m ∧ 0 ≤ x ∧ x < m ∧ r * x ^ ee.toNat % m = b ^ e.toNat % m) e.toNat ⟨1 % m, b % m, e, rfl, rfl, he, rfl, Int.emod_nonneg _ (by omega), Int.emod_lt_of_pos _ hm, Int.emod_nonneg _ (by omega), Int.emod_lt_of_pos _ hm, pm_start⟩ ?_
  rintro μ σ H' ⟨r, x, ee, rfl, rfl, hee, rfl, hr0, hr1, hx0, hx1, hinv⟩ N hN hN2
  unfold t__law_pr_power_w1_c t__law_pr_power_w1_b
  walk_at "z"
  by_cases h0 : ee > 0
  · rw [if_pos h0]
    refine ⟨N, hN2, ?_⟩
    walk_at "z"
    refine ⟨by omega, ?_⟩
    have xx : 0 ≤ x * x % m ∧ x * x % m < m := ⟨Int.emod_nonneg _ (by omega), Int.emod_lt_of_pos _ hm⟩
    by_cases h1 : ee % 2 = 1
    · rw [if_pos h1]
      refine ⟨mulS (by omega), hm, mulS (by omega), hm, divS (by omega) (by omega), hN _ _ _ (by omega) ⟨_, _, _, rfl, rfl, by omega, rfl, Int.emod_nonneg _ (by omega), Int.emod_lt_of_pos _ hm, xx.1, xx.2, ?_⟩⟩
      rw [half_toNat hee, pm_odd (by omega), hinv]
    · rw [if_neg h1]
      refine ⟨mulS (by omega), hm, divS (by omega) (by omega), hN _ _ _ (by omega) ⟨_, _, _, rfl, rfl, by omega, rfl, hr0, hr1, xx.1, xx.2, ?_⟩⟩
      rw [half_toNat hee, pm_even (by omega), hinv]
  · rw [if_neg h0]
    obtain rfl : ee = 0 := by omega
    have e0 : r * x ^ (0 : Int).toNat % m = r := by
      show r * x ^ 0 % m = r
      rw [Int.pow_zero, Int.mul_one, emod_small hr0 hr1]
    rw [← hinv, e0] at hq
    exact hq
theorem ok__law_pr_power {P : Program} {w : World} {K : PySem.W.Frag} {mg : Str → Option Value} {base : Heap} (T : Tx K mg) : Okk P w K mg base 1 "_law_pr_power" ["base", "exponent", "modulus"] (sp__law_pr_power K) := by
  have hf_int := T.n_int
  obtain ⟨fd, F⟩ := T.f__law_pr_power
  refine ⟨fd, F.ok sc__law_pr_power (fun vs H Q E h => len__law_pr_power h) (fun cdv A outer s H vs Q E hr h => ⟨t__law_pr_power K, PSs.nox ?_, pure__law_pr_power K vs H Q E h⟩), F.bindsN (fun _ _ _ _ _ _ us hl => match us, hl with | [_, _, _], _ => rfl), T.g__law_pr_power, F.kp⟩
  exact (pss_cons (ps_par3 (i := 3) (j := 4) (l := 5) rfl sc__law_pr_power.nd rfl rfl rfl (by decide) (by decide) (by decide) rfl rfl rfl (pa_cons (pe_op op_mod pe_int (pv 2)) (pa_cons (pe_op op_mod (pe_callTy call_int1 (by rfl) hf_int (by decide +kernel) (pa_cons (pv 0) pa_nil)) (pv 2)) (pa_cons (pv 1) pa_nil))) (by rfl))
      (pss_cons (ps_while PassesOwn.never (pt_cmpR op_gt (pv 5) pe_int (nomark _)) (pss_cons (ps_if (pt_cmpR op_eq (pe_op op_mod (pv 5) pe_int) pe_int (nomark _)) (pss_one (ps_set (i := 3) sc__law_pr_power.nd rfl (by first | exact Or.inl rfl | exact Or.inr rfl) (pe_op op_mod (pe_callTy call_int1 (by rfl) hf_int (by decide +kernel) (pa_cons (pe_op op_mulU (pv 3) (pv 4)) pa_nil)) (pv 2)))) pss_nil)
      (pss_one (ps_par (i := 4) (j := 5) rfl sc__law_pr_power.nd rfl rfl (by decide) rfl rfl (pa_cons (pe_op op_mod (pe_callTy call_int1 (by rfl) hf_int (by decide +kernel) (pa_cons (pe_op op_mulU (pv 4) (pv 4)) pa_nil)) (pv 2)) (pa_cons (pe_op op_fdivW (pv 5) pe_int) pa_nil)) (by rfl)))))
      (pss_one (ps_ret (pv 3)))))
/-! ### _law_pr_times -/
theorem sc__law_pr_times : FnScope ["base", "exponent", "found", "turn"] ["base", "exponent"] (defScope s__law_pr_times) := ⟨rfl, rfl, rfl, by decide +kernel, rfl, by decide +kernel, by decide +kernel⟩
def sp__law_pr_times (K : PySem.W.Frag) : Sp := fun vs H Q _ => ∃ b e : Int, vs = [.int b, .int e] ∧ -(2 ^ 64) < b ∧ b < 2 ^ 64 ∧ e < 2 ^ 62 ∧ -(2 ^ 62) ≤ e ∧ Q (.int (b ^ e.toNat)) H
theorem len__law_pr_times {K : PySem.W.Frag} {vs : List V} {H : Hp} {Q : VK} {E : XK} (h : sp__law_pr_times K vs H Q E) : vs.length = ["base", "exponent"].length := by
  obtain ⟨_, _, rfl, _⟩ := h
  rfl
def t__law_pr_times_f1_b (K : PySem.W.Frag) : TS := (tAsg (tOp rMulU (tVar 2) (tVar 0)) (gName 2))
def t__law_pr_times (K : PySem.W.Frag) : TS := (tSeq (tAsg (tC (.int 1)) (gName 2))
  (tSeq (tFor (iRng1 (tCons (tVar 1) tNil)) (gName 3) (t__law_pr_times_f1_b K))
  (tRet (tVar 2))))
theorem pure__law_pr_times (K : PySem.W.Frag) (vs : List V) (H : Hp) (Q : VK) (E : XK) (h : sp__law_pr_times K vs H Q E) : t__law_pr_times K { nx := fun _ H' => Q .non H', rt := Q } (start ["base", "exponent", "found", "turn"] vs) H := by
  obtain ⟨b, e, rfl, h1, h2, h3, h4, hq⟩ := h
  unfold t__law_pr_times
  walk_at "z"
  refine ⟨e, rfl, by omega, by omega, for_R (fun i σ H' => ∃ o, σ = [some (.int b), some (.int e), some (.int (b ^ i)), o] ∧ H' = H) ⟨none, by rw [Int.pow_zero], rfl⟩ (fun i σ H' hi h N hN => ?_) (fun σ H' h => ?_)⟩
  · obtain ⟨o, rfl, rfl⟩ := h
    unfold t__law_pr_times_f1_b
    walk_at "z"
    exact ⟨mulR (by omega), hN _ _ ⟨_, by rw [Int.pow_succ], rfl⟩⟩
  · obtain ⟨o, rfl, rfl⟩ := h
    walk_at "z"
    exact hq

theorem ok__law_pr_times {P : Program} {w : World} {K : PySem.W.Frag} {mg : Str → Option Value} {base : Heap} (T : Tx K mg) : Okk P w K mg base 1 "_law_pr_times" ["base", "exponent"] (sp__law_pr_times K) := by
  have hf_range := T.n_range
  obtain ⟨fd, F⟩ := T.f__law_pr_times
  refine ⟨fd, F.ok sc__law_pr_times (fun vs H Q E h => len__law_pr_times h) (fun cdv A outer s H vs Q E hr h => ⟨t__law_pr_times K, PSs.nox ?_, pure__law_pr_times K vs H Q E h⟩), F.bindsN (fun _ _ _ _ _ _ us hl => match us, hl with | [_, _], _ => rfl), T.g__law_pr_times, F.kp⟩
  exact (pss_cons (ps_set (i := 2) sc__law_pr_times.nd rfl (by first | exact Or.inl rfl | exact Or.inr rfl) pe_int)
      (pss_cons (ps_for PassesOwn.never rfl (pi_range1 rfl hf_range (pa_cons (pv 1) pa_nil)) (pg_name (i := 3) sc__law_pr_times.nd rfl (by first | exact Or.inl rfl | exact Or.inr rfl)) (pss_one (ps_set (i := 2) sc__law_pr_times.nd rfl (by first | exact Or.inl rfl | exact Or.inr rfl) (pe_op op_mulU (pv 2) (pv 0)))))
      (pss_one (ps_ret (pv 2)))))
/-! ### _law_pr_is_whole -/
theorem sc__law_pr_is_whole : FnScope ["value"] ["value"] (defScope s__law_pr_is_whole) := ⟨rfl, rfl, rfl, by decide +kernel, rfl, by decide +kernel, by decide +kernel⟩
def sp__law_pr_is_whole (K : PySem.W.Frag) : Sp := fun vs H Q _ => ∃ i : Int, vs = [.int i] ∧ Q (.bl true) H
theorem len__law_pr_is_whole {K : PySem.W.Frag} {vs : List V} {H : Hp} {Q : VK} {E : XK} (h : sp__law_pr_is_whole K vs H Q E) : vs.length = ["value"].length := by
  obtain ⟨_, rfl, _⟩ := h
  rfl
def t__law_pr_is_whole (K : PySem.W.Frag) : TS := (tRet (tAndV (tCB (rIsi K) (tCons (tVar 0) (tCons (tC (.ty "int")) tNil))) (tNotV (tCB (rIsi K) (tCons (tVar 0) (tCons (tC (.ty "bool")) tNil))))))
theorem pure__law_pr_is_whole (K : PySem.W.Frag) (vs : List V) (H : Hp) (Q : VK) (E : XK) (h : sp__law_pr_is_whole K vs H Q E) : t__law_pr_is_whole K { nx := fun _ H' => Q .non H', rt := Q } (start ["value"] vs) H := by
  obtain ⟨i, rfl, hq⟩ := h
  unfold t__law_pr_is_whole
  walk_at "z"
  refine isi_int ?_
  walk_at "z"
  refine isi_intB ?_
  walk_at "z"
  exact hq
theorem ok__law_pr_is_whole {P : Program} {w : World} {K : PySem.W.Frag} {mg : Str → Option Value} {base : Heap} (T : Tx K mg) : Okk P w K mg base 1 "_law_pr_is_whole" ["value"] (sp__law_pr_is_whole K) := by
  have hf_bool := T.n_bool
  have hf_int := T.n_int
  have hf_isinstance := T.n_isinstance
  obtain ⟨fd, F⟩ := T.f__law_pr_is_whole
  refine ⟨fd, F.ok sc__law_pr_is_whole (fun vs H Q E h => len__law_pr_is_whole h) (fun cdv A outer s H vs Q E hr h => ⟨t__law_pr_is_whole K, PSs.nox ?_, pure__law_pr_is_whole K vs H Q E h⟩), F.bindsN (fun _ _ _ _ _ _ us hl => match us, hl with | [_], _ => rfl), T.g__law_pr_is_whole, F.kp⟩
  exact (pss_one (ps_ret (pe_and (pe_callB call_isi (by rfl) hf_isinstance (by decide +kernel) (pa_cons (pv 0) (pa_cons (pe_bltn (v := .ty "int") rfl hf_int (by decide +kernel) rfl) pa_nil))) (pe_one (pe_not (pe_callB call_isi (by rfl) hf_isinstance (by decide +kernel) (pa_cons (pv 0) (pa_cons (pe_bltn (v := .ty "bool") rfl hf_bool (by decide +kernel) rfl) pa_nil))))))))
/-! ### _law_pick -/
theorem sc__law_pick : FnScope ["dice", "items"] ["dice", "items"] (defScope s__law_pick) := ⟨rfl, rfl, rfl, by decide +kernel, rfl, by decide +kernel, by decide +kernel⟩
def sp__law_pick (K : PySem.W.Frag) : Sp := fun vs H Q _ => ∃ (d L : Addr) (xs : List V), vs = [.ref d, .ref L] ∧ Dice H d ∧ d ≠ L ∧ H L = some (.lst xs) ∧ xs ≠ [] ∧ xs.length < 2 ^ 40 ∧ ∀ v H', v ∈ xs → Keep d H H' → Dice H' d → Q v H'
theorem len__law_pick {K : PySem.W.Frag} {vs : List V} {H : Hp} {Q : VK} {E : XK} (h : sp__law_pick K vs H Q E) : vs.length = ["dice", "items"].length := by
  obtain ⟨_, _, _, rfl, _⟩ := h
  rfl
def t__law_pick (K : PySem.W.Frag) : TS := (tRet (tOp (rIxA K) (tVar 1) (tCall (sp__law_roll K) [] E0 (tCons (tVar 0) (tCons (tCB (rLenU K) (tCons (tVar 1) tNil)) tNil)))))
theorem pure__law_pick (K : PySem.W.Frag) (vs : List V) (H : Hp) (Q : VK) (E : XK) (h : sp__law_pick K vs H Q E) : t__law_pick K { nx := fun _ H' => Q .non H', rt := Q } (start ["dice", "items"] vs) H := by
  obtain ⟨d, L, xs, rfl, hD, hne, hL, hx, hl, hq⟩ := h
  unfold t__law_pick
  walk_at "z"
  refine lenL (sqL_of hL) ?_
  walk_at "z"
  have hp : 0 < xs.length := List.length_pos_iff.mpr hx
  refine ⟨d, _, rfl, hD, by omega, by omega, fun r H' r0 r1 k1 d1 => ?_⟩
  walk_at "z"
  have hr : r.toNat < xs.length := by omega
  have e : r = ((r.toNat : Nat) : Int) := by omega
  refine ixL (sqL_of (k1 _ _ (Ne.symm hne) hL)) (v := xs[r.toNat]) ?_ (hq _ _ (List.getElem_mem hr) k1 d1)
  have h9 := atI_nat (List.getElem?_eq_getElem hr)
  rw [← e] at h9
  exact h9
theorem ok__law_pick {P : Program} {w : World} {K : PySem.W.Frag} {mg : Str → Option Value} {base : Heap} (T : Tx K mg) : Okk P w K mg base 2 "_law_pick" ["dice", "items"] (sp__law_pick K) := by
  obtain ⟨fd__law_roll, F__law_roll, b__law_roll, g__law_roll, k__law_roll⟩ := ok__law_roll (P := P) (w := w) (base := base) T
  have hf_len := T.n_len
  obtain ⟨fd, F⟩ := T.f__law_pick
  refine ⟨fd, F.ok sc__law_pick (fun vs H Q E h => len__law_pick h) (fun cdv A outer s H vs Q E hr h => ⟨t__law_pick K, PSs.nox ?_, pure__law_pick K vs H Q E h⟩), F.bindsN (fun _ _ _ _ _ _ us hl => match us, hl with | [_, _], _ => rfl), T.g__law_pick, F.kp⟩
  exact (pss_one (ps_ret (pe_ix ix_lt (pv 1) (pe_call F__law_roll (hr.mono (by decide)) rfl g__law_roll k__law_roll b__law_roll .nil pass0 (pa_cons (pv 0) (pa_cons (pe_callB call_len_seq (by rfl) hf_len (by decide +kernel) (pa_cons (pv 1) pa_nil)) pa_nil))) (fun _ _ => rfl))))
/-! ### _law_pr_is -/
theorem sc__law_pr_is : FnScope ["number"] ["number"] (defScope s__law_pr_is) := ⟨rfl, rfl, rfl, by decide +kernel, rfl, by decide +kernel, by decide +kernel⟩
def sp__law_pr_is (K : PySem.W.Frag) : Sp := fun vs H Q _ => ∃ n : Nat, vs = [.int (n : Int)] ∧ n < 100040004 ∧ ∀ b : Bool, (b = true ↔ PrimeN n) → Q (.bl b) H
theorem len__law_pr_is {K : PySem.W.Frag} {vs : List V} {H : Hp} {Q : VK} {E : XK} (h : sp__law_pr_is K vs H Q E) : vs.length = ["number"].length := by
  obtain ⟨_, rfl, _⟩ := h
  rfl
def t__law_pr_is (K : PySem.W.Frag) : TS := (tRet (tAndV (tOp rGeI (tVar 0) (tC (.int 2))) (tOp rEq (tCall (sp__law_pr_least K) [] E0 (tCons (tVar 0) tNil)) (tVar 0))))
theorem bfalse {p : Prop} (h : ¬ p) : (false = true ↔ p) := ⟨fun x => (by cases x), fun x => (h x).elim⟩
theorem pure__law_pr_is (K : PySem.W.Frag) (vs : List V) (H : Hp) (Q : VK) (E : XK) (h : sp__law_pr_is K vs H Q E) : t__law_pr_is K { nx := fun _ H' => Q .non H', rt := Q } (start ["number"] vs) H := by
  obtain ⟨n, rfl, hn, hq⟩ := h
  unfold t__law_pr_is
  walk_at "z"
  by_cases h2 : (2 : Int) ≤ (n : Int)
  · rw [if_pos (by omega)]
    refine ⟨n, rfl, by omega, hn, fun d d2 hd hl => ?_⟩
    walk_at "z"
    refine hq _ ?_
    rw [decide_eq_true_eq]
    constructor
    · intro e
      obtain rfl : d = n := by omega
      exact ⟨d2, hl⟩
    · intro hp
      refine Classical.byContradiction fun c => ?_
      have := Nat.le_of_dvd (by omega) hd
      exact hp.2 d d2 (by omega) hd
  · rw [if_neg (by omega)]
    exact hq false (bfalse fun hp => by have := hp.1; omega)
theorem ok__law_pr_is {P : Program} {w : World} {K : PySem.W.Frag} {mg : Str → Option Value} {base : Heap} (T : Tx K mg) : Okk P w K mg base 2 "_law_pr_is" ["number"] (sp__law_pr_is K) := by
  obtain ⟨fd__law_pr_least, F__law_pr_least, b__law_pr_least, g__law_pr_least, k__law_pr_least⟩ := ok__law_pr_least (P := P) (w := w) (base := base) T
  obtain ⟨fd, F⟩ := T.f__law_pr_is
  refine ⟨fd, F.ok sc__law_pr_is (fun vs H Q E h => len__law_pr_is h) (fun cdv A outer s H vs Q E hr h => ⟨t__law_pr_is K, PSs.nox ?_, pure__law_pr_is K vs H Q E h⟩), F.bindsN (fun _ _ _ _ _ _ us hl => match us, hl with | [_], _ => rfl), T.g__law_pr_is, F.kp⟩
  exact (pss_one (ps_ret (pe_and (pe_cmpR op_ge (pv 0) pe_int (nomark _)) (pe_one (pe_cmpR op_eq (pe_call F__law_pr_least (hr.mono (by decide)) rfl g__law_pr_least k__law_pr_least b__law_pr_least .nil pass0 (pa_cons (pv 0) pa_nil)) (pv 0) (nomark _))))))
/-! ### _law_pr_is_row -/
theorem sc__law_pr_is_row : FnScope ["known", "value", "prime", "maker", "parts", "whole", "last", "part"] ["known", "value"] (defScope s__law_pr_is_row) := ⟨rfl, rfl, rfl, by decide +kernel, rfl, by decide +kernel, by decide +kernel⟩
/-- a row of a paper, of any parts -/
def RowP (H : Hp) (v : V) (p g : Nat) (ps : List (Nat × Nat)) : Prop := ∃ a T xs, v = .ref a ∧ H a = some (.tup [.int p, .int g, .ref T]) ∧ H T = some (.tup xs) ∧ PR H xs ps
theorem RowP.same {H H' : Hp} {v : V} {p g : Nat} {ps : List (Nat × Nat)} (h : RowP H v p g ps) (s : Same H H') : RowP H' v p g ps := by
  obtain ⟨a, T, xs, e, h1, h2, h3⟩ := h
  exact ⟨a, T, xs, e, s _ _ h1, s _ _ h2, h3.same s⟩
def lastN (l : List (Nat × Nat)) : Nat := l.foldl (fun _ q => q.1) 0
def PartGood (ks : List Nat) (p g : Nat) (ps : List (Nat × Nat)) (i : Nat) (q : Nat × Nat) : Prop := lastN (ps.take i) < q.1 ∧ q.1 ∈ ks ∧ (g : Int) ^ ((p - 1) / q.1) % (p : Int) ≠ 1
def RowGood (ks : List Nat) (p g : Nat) (ps : List (Nat × Nat)) : Prop :=
  (∃ k, ks.getLast? = some k ∧ k < p) ∧ (1 ≤ g ∧ g < p) ∧ (∀ i q, ps[i]? = some q → PartGood ks p g ps i q) ∧ prodN ps = p - 1 ∧ (g : Int) ^ (p - 1) % (p : Int) = 1
structure SmallP (ps : List (Nat × Nat)) : Prop where
  one : ∀ q ∈ ps, 2 ≤ q.1 ∧ q.1 < 2 ^ 40 ∧ 1 ≤ q.2 ∧ q.2 ≤ 400
  prod : prodN ps < 2 ^ 40
  len : ps.length < 2 ^ 20
def sp__law_pr_is_row (K : PySem.W.Frag) : Sp := fun vs H Q _ => ∃ (kn : Addr) (ks : List Nat) (v : V) (pg : Nat × Nat) (ps : List (Nat × Nat)), vs = [.ref kn, v] ∧ H kn = some (.lst (ks.map fun k : Nat => V.int (k : Int))) ∧ ks ≠ [] ∧ ks.length < 2 ^ 20 ∧ RowP H v pg.1 pg.2 ps ∧ 2 ≤ pg.1 ∧ pg.1 < 2 ^ 40 ∧ SmallP ps ∧ ∀ (b : Bool) H', (b = true ↔ RowGood ks pg.1 pg.2 ps) → Same H H' → Q (.bl b) H'
theorem len__law_pr_is_row {K : PySem.W.Frag} {vs : List V} {H : Hp} {Q : VK} {E : XK} (h : sp__law_pr_is_row K vs H Q E) : vs.length = ["known", "value"].length := by
  obtain ⟨_, _, _, _, _, rfl, _⟩ := h
  rfl
def t__law_pr_is_row_f1_b (K : PySem.W.Frag) : TS := (tSeq (tIfS (tOr (tNot (tB (tCB (rIsi K) (tCons (tVar 7) (tCons (tC (.ty "tuple")) tNil))))) (tOr (tTest (tOp rNe (tCB (rLenU K) (tCons (tVar 7) tNil)) (tC (.int 2)))) (tOr (tNot (tB (tCall (sp__law_pr_is_whole K) [] E0 (tCons (tOp (rIxA K) (tVar 7) (tC (.int 0))) tNil)))) (tNot (tB (tCall (sp__law_pr_is_whole K) [] E0 (tCons (tOp (rIxA K) (tVar 7) (tC (.int 1))) tNil))))))) (tRet (tC (.bl false))) tNext)
  (tSeq (tIfS (tOr (tTest (tOp rLeI (tOp (rIxA K) (tVar 7) (tC (.int 0))) (tVar 6))) (tOr (tTest (tOp (rIn K true) (tOp (rIxA K) (tVar 7) (tC (.int 0))) (tVar 0))) (tNot (tTest (tChain rLeI rLeI (tC (.int 1)) (tOp (rIxA K) (tVar 7) (tC (.int 1))) (tC (.int 400))))))) (tRet (tC (.bl false))) tNext)
  (tSeq (tPar 5 6 (tCons (tOp rMulU (tVar 5) (tCall (sp__law_pr_times K) [] E0 (tCons (tOp (rIxA K) (tVar 7) (tC (.int 0))) (tCons (tOp (rIxA K) (tVar 7) (tC (.int 1))) tNil)))) (tCons (tOp (rIxA K) (tVar 7) (tC (.int 0))) tNil)))
  (tIfS (tTest (tOp rEq (tCall (sp__law_pr_power K) [] E0 (tCons (tVar 3) (tCons (tOp rDivU (tOp rSub (tVar 2) (tC (.int 1))) (tOp (rIxA K) (tVar 7) (tC (.int 0)))) (tCons (tVar 2) tNil)))) (tC (.int 1)))) (tRet (tC (.bl false))) tNext))))
def t__law_pr_is_row (K : PySem.W.Frag) : TS := (tSeq (tIfS (tOr (tNot (tB (tCB (rIsi K) (tCons (tVar 1) (tCons (tC (.ty "tuple")) tNil))))) (tOr (tTest (tOp rNe (tCB (rLenU K) (tCons (tVar 1) tNil)) (tC (.int 3)))) (tOr (tNot (tB (tCall (sp__law_pr_is_whole K) [] E0 (tCons (tOp (rIxA K) (tVar 1) (tC (.int 0))) tNil)))) (tNot (tB (tCall (sp__law_pr_is_whole K) [] E0 (tCons (tOp (rIxA K) (tVar 1) (tC (.int 1))) tNil))))))) (tRet (tC (.bl false))) tNext)
  (tSeq (tAsg (tVar 1) (gTup K 3 (gCons (gName 2) (gCons (gName 3) (gCons (gName 4) gNil)))))
  (tSeq (tIfS (tOr (tTest (tOp rLeI (tVar 2) (tOp (rIxA K) (tVar 0) (tUn rNeg (tC (.int 1)))))) (tOr (tNot (tTest (tChain rLeI rLtI (tC (.int 1)) (tVar 3) (tVar 2)))) (tNot (tB (tCB (rIsi K) (tCons (tVar 4) (tCons (tC (.ty "tuple")) tNil))))))) (tRet (tC (.bl false))) tNext)
  (tSeq (tAsg (tTup (tCons (tC (.int 1)) (tCons (tC (.int 0)) tNil))) (gTup K 2 (gCons (gName 5) (gCons (gName 6) gNil))))
  (tSeq (tFor (iTup K (tVar 4)) (gName 7) (t__law_pr_is_row_f1_b K))
  (tRet (tAndV (tOp rEq (tVar 5) (tOp rSub (tVar 2) (tC (.int 1)))) (tOp rEq (tCall (sp__law_pr_power K) [] E0 (tCons (tVar 3) (tCons (tOp rSub (tVar 2) (tC (.int 1))) (tCons (tVar 2) tNil)))) (tC (.int 1))))))))))
theorem isi_tup {K : PySem.W.Frag} {a : Addr} {xs : List V} {H : Hp} {Q : VK} (h : H a = some (.tup xs)) (q : Q (.bl true) H) : rIsi K [.ref a, .ty "tuple"] H Q :=
  ⟨_, _, _, _, _, rfl, .ty "tuple", .base (.tup h), kit_ty (show kitB "tuple" "tuple" = some true by decide +kernel), q⟩
theorem prodN_app : ∀ l r : List (Nat × Nat), prodN (l ++ r) = prodN l * prodN r
  | [], r => by simp [prodN]
  | x :: l, r => by rw [List.cons_append, prodN_cons, prodN_cons, prodN_app l r, Nat.mul_assoc]
theorem prodN_pos : ∀ {l : List (Nat × Nat)}, (∀ q ∈ l, 2 ≤ q.1) → 1 ≤ prodN l
  | [], _ => Nat.le_refl 1
  | x :: l, h => by
    rw [prodN_cons]
    exact Nat.mul_pos (Nat.pow_pos (by have := h x List.mem_cons_self; omega)) (prodN_pos fun q hq => h q (List.mem_cons_of_mem _ hq))
theorem SmallP.pre {ps : List (Nat × Nat)} (h : SmallP ps) (i : Nat) : prodN (ps.take i) < 2 ^ 40 := by
  have e : prodN ps = prodN (ps.take i) * prodN (ps.drop i) := by rw [← prodN_app, List.take_append_drop]
  have := prodN_pos (l := ps.drop i) fun q hq => (h.one q (List.mem_of_mem_drop hq)).1
  have h2 : prodN (ps.take i) ≤ prodN ps := by rw [e]; exact Nat.le_mul_of_pos_right _ this
  exact Nat.lt_of_le_of_lt h2 h.prod
theorem take_one {ps : List (Nat × Nat)} {i : Nat} {q : Nat × Nat} (h : ps[i]? = some q) : ps.take (i + 1) = ps.take i ++ [q] := by
  obtain ⟨h1, rfl⟩ := List.getElem?_eq_some_iff.mp h
  exact List.take_succ_eq_append_getElem h1
theorem in_list {K : PySem.W.Frag} {H : Hp} {D : Addr} {k : Nat} {ks : List Nat} {neg : Bool} {Q : VK} (h : H D = some (.lst (ks.map fun k : Nat => V.int (k : Int)))) (q : Q (.bl (neg ^^ decide (k ∈ ks))) H) : rIn K neg (.int (k : Int)) (.ref D) H Q := by
  refine ⟨D, _, rfl, .inl (sqL_of h), rfl, ?_, ?_⟩
  · simp [flatV]
  · have e : inV (.int (k : Int)) (ks.map fun k : Nat => V.int (k : Int)) = decide (k ∈ ks) := by
      rw [Bool.eq_iff_iff, decide_eq_true_eq]
      simp only [inV, eqV, List.any_map, List.any_eq_true, Function.comp, decide_eq_true_eq]
      constructor
      · rintro ⟨x, hx, e⟩
        have : x = k := by
          have e2 : (x : Int) = k := by simpa using e
          omega
        exact this ▸ hx
      · intro hx; exact ⟨k, hx, by simp⟩
    cases neg <;> simpa [e] using q
theorem last_ix {K : PySem.W.Frag} {H : Hp} {D : Addr} {ks : List Nat} {k : Nat} {Q : VK} (h : H D = some (.lst (ks.map fun k : Nat => V.int (k : Int)))) (e : ks.getLast? = some k) (q : Q (.int (k : Int)) H) : rIxA K (.ref D) (.int (-1)) H Q := by
  refine ixL (sqL_of h) (v := .int (k : Int)) ?_ q
  have hne : ks ≠ [] := fun c => by rw [c] at e; cases e
  have hl : 0 < ks.length := List.length_pos_iff.mpr hne
  unfold atI ixN
  rw [if_neg (by decide), if_pos (by simp; omega)]
  have e2 : ((-1 : Int) + ((ks.map fun k : Nat => V.int (k : Int)).length : Int)).toNat = ks.length - 1 := by simp; omega
  rw [List.getLast?_eq_getElem?] at e
  first
    | (rw [e2, List.getElem?_map, e]; rfl)
    | (simp only [Option.bind_some]; rw [e2, List.getElem?_map, e]; rfl)
    | trace_state
theorem pure__law_pr_is_row (K : PySem.W.Frag) (vs : List V) (H : Hp) (Q : VK) (E : XK) (h : sp__law_pr_is_row K vs H Q E) : t__law_pr_is_row K { nx := fun _ H' => Q .non H', rt := Q } (start ["known", "value", "prime", "maker", "parts", "whole", "last", "part"] vs) H := by
  obtain ⟨kn, ks, v, ⟨p, g⟩, ps, rfl, hk, hk0, hkl, ⟨a, T, xs, rfl, ha, hT, hPR⟩, p2, pb, hS, hq⟩ := h
  dsimp only at *
  unfold t__law_pr_is_row
  walk_at "z"
  refine isi_tup ha ?_
  walk_at "z"
  refine lenT (sqT_of ha) ?_
  walk_at "z"
  refine ixT (sqT_of ha) (v := .int (p : Int)) rfl ?_
  refine ⟨_, rfl, ?_⟩
  walk_at "z"
  refine ixT (sqT_of ha) (v := .int (g : Int)) rfl ?_
  refine ⟨_, rfl, ?_⟩
  walk_at "z"
  refine ⟨_, sqT_of ha, rfl, ?_⟩
  walk_at "z"
  obtain ⟨k, ek⟩ : ∃ k, ks.getLast? = some k := ⟨_, List.getLast?_eq_some_getLast hk0⟩
  refine last_ix hk ek ?_
  walk_at "z"
  by_cases c1 : (p : Int) ≤ (k : Int)
  · rw [if_pos c1]
    exact hq false H (bfalse fun ⟨⟨k2, e, h⟩, _⟩ => by rw [ek] at e; cases e; omega) (Same.refl H)
  rw [if_neg c1]
  by_cases c2 : (1 : Int) ≤ (g : Int)
  rotate_left
  · rw [if_neg c2]
    exact hq false H (bfalse fun ⟨_, h, _⟩ => by omega) (Same.refl H)
  rw [if_pos c2]
  by_cases c3 : ¬ (g : Int) < (p : Int)
  · rw [if_pos c3]
    exact hq false H (bfalse fun ⟨_, h, _⟩ => by omega) (Same.refl H)
  rw [if_neg c3]
  refine isi_tup hT ?_
  walk_at "z"
  refine ⟨by decide, fun t0 ht0 => ⟨_, sqT_of upd_same, rfl, ?_⟩⟩
  walk_at "z"
  have s0 := same_upd (o := .tup [V.int 1, V.int 0]) ht0
  have hT0 := s0 _ _ hT
  have hPR0 := hPR.same s0
  have hk1 := s0 _ _ hk
  revert s0 hT0 hPR0 hk1
  generalize upd H t0 (.tup [V.int 1, V.int 0]) = H0
  intro s0 hT0 hPR0 hk1
  have pm1 : ((p : Int) - 1) = ((p - 1 : Nat) : Int) := by omega
  refine ⟨T, rfl, ⟨xs, sqT_of hT0⟩, for_T (xs := xs) (fun i σ H' => ∃ o, σ = [some (.ref kn), some (.ref a), some (.int (p : Int)), some (.int (g : Int)), some (.ref T), some (.int (prodN (ps.take i) : Nat)), some (.int (lastN (ps.take i) : Nat)), o] ∧ H' = H0 ∧ ∀ j q, j < i → ps[j]? = some q → PartGood ks p g ps j q) ⟨_, rfl, rfl, fun j q h => by omega⟩ (fun i σ H' _ h => by obtain ⟨_, _, rfl, _⟩ := h; exact sqT_of hT0) (fun i x σ H' hx h N hN => ?_) (fun σ H' h => ?_)⟩
  · obtain ⟨o, rfl, rfl, hgood⟩ := h
    obtain ⟨q, t, hqi, rfl, ht⟩ := hPR0.get hx
    have hq1 := hS.one q (List.mem_of_getElem? hqi)
    unfold t__law_pr_is_row_f1_b
    walk_at "z"
    refine isi_tup ht ?_
    walk_at "z"
    refine lenT (sqT_of ht) ?_
    walk_at "z"
    refine ixT (sqT_of ht) (v := .int (q.1 : Int)) rfl ?_
    refine ⟨_, rfl, ?_⟩
    walk_at "z"
    refine ixT (sqT_of ht) (v := .int (q.2 : Int)) rfl ?_
    refine ⟨_, rfl, ?_⟩
    walk_at "z"
    refine ixT (sqT_of ht) (v := .int (q.1 : Int)) rfl ?_
    walk_at "z"
    have no : ¬ PartGood ks p g ps i q → Q (.bl false) H' := fun h => hq false H' (bfalse fun hg => h (hg.2.2.1 i q hqi)) s0
    by_cases d1 : (q.1 : Int) ≤ (lastN (ps.take i) : Nat)
    · rw [if_pos d1]
      exact no fun h => by have := h.1; omega
    rw [if_neg d1]
    refine ixT (sqT_of ht) (v := .int (q.1 : Int)) rfl ?_
    refine in_list hk1 ?_
    walk_at "z"
    by_cases d2 : q.1 ∈ ks
    rotate_left
    · rw [decide_eq_false d2]
      walk_at "z"
      exact no fun h => d2 h.2.1
    rw [decide_eq_true d2]
    walk_at "z"
    refine ixT (sqT_of ht) (v := .int (q.2 : Int)) rfl ?_
    walk_at "z"
    rw [if_pos (by omega), if_neg (by omega)]
    refine ixT (sqT_of ht) (v := .int (q.1 : Int)) rfl ?_
    refine ixT (sqT_of ht) (v := .int (q.2 : Int)) rfl ?_
    refine ⟨_, _, rfl, by omega, by omega, by omega, by omega, ?_⟩
    have hpre := hS.pre i
    walk_at "z"
    refine ⟨mulS (by omega), ixT (sqT_of ht) (v := .int (q.1 : Int)) rfl ?_⟩
    walk_at "z"
    refine ixT (sqT_of ht) (v := .int (q.1 : Int)) rfl ?_
    walk_at "z"
    refine ⟨divS (by omega) (by omega), _, _, _, rfl, Int.ediv_nonneg (by omega) (by omega), by omega, by omega, ?_⟩
    walk_at "z"
    have ed : (((p : Int) - 1) / (q.1 : Int)).toNat = (p - 1) / q.1 := by rw [pm1, ← Int.natCast_ediv, Int.toNat_natCast]
    rw [ed]
    by_cases d3 : (g : Int) ^ ((p - 1) / q.1) % (p : Int) = 1
    · rw [if_pos d3]
      exact no fun h => h.2.2 d3
    rw [if_neg d3]
    refine hN _ _ ⟨some (.ref t), ?_, rfl, fun j q' hj hq' => ?_⟩
    · rw [take_one hqi, prodN_snoc]
      have : lastN (ps.take i ++ [q]) = q.1 := by simp [lastN]
      rw [this]
      push_cast
      rfl
    · by_cases e : j = i
      · subst e
        rw [hqi] at hq'
        cases hq'
        exact ⟨by omega, d2, d3⟩
      · exact hgood j q' (by omega) hq'
  · obtain ⟨o, rfl, rfl, hgood⟩ := h
    have hlen : xs.length = ps.length := hPR.len
    rw [hlen, List.take_length] at *
    have hlen2 : xs.length = ps.length := hPR.len
    walk_at "z"
    rw [pm1]
    by_cases d1 : ((prodN ps : Nat) : Int) = ((p - 1 : Nat) : Int)
    rotate_left
    · rw [if_neg d1]
      exact hq false _ (bfalse fun h => d1 (by rw [h.2.2.2.1])) s0
    rw [if_pos d1]
    refine ⟨_, _, _, rfl, by omega, by omega, by omega, ?_⟩
    walk_at "z"
    refine hq _ _ ?_ s0
    rw [decide_eq_true_eq, Int.toNat_natCast]
    constructor
    · intro h
      refine ⟨⟨k, ek, by omega⟩, ⟨by omega, by omega⟩, fun i q hi => hgood i q ?_ hi, by omega, h⟩
      have := (List.getElem?_eq_some_iff.mp hi).1
      omega
    · intro h
      exact h.2.2.2.2
theorem ok__law_pr_is_row {P : Program} {w : World} {K : PySem.W.Frag} {mg : Str → Option Value} {base : Heap} (T : Tx K mg) : Okk P w K mg base 2 "_law_pr_is_row" ["known", "value"] (sp__law_pr_is_row K) := by
  obtain ⟨fd__law_pr_power, F__law_pr_power, b__law_pr_power, g__law_pr_power, k__law_pr_power⟩ := ok__law_pr_power (P := P) (w := w) (base := base) T
  obtain ⟨fd__law_pr_times, F__law_pr_times, b__law_pr_times, g__law_pr_times, k__law_pr_times⟩ := ok__law_pr_times (P := P) (w := w) (base := base) T
  obtain ⟨fd__law_pr_is_whole, F__law_pr_is_whole, b__law_pr_is_whole, g__law_pr_is_whole, k__law_pr_is_whole⟩ := ok__law_pr_is_whole (P := P) (w := w) (base := base) T
  have hf_isinstance := T.n_isinstance
  have hf_len := T.n_len
  have hf_tuple := T.n_tuple
  obtain ⟨fd, F⟩ := T.f__law_pr_is_row
  refine ⟨fd, F.ok sc__law_pr_is_row (fun vs H Q E h => len__law_pr_is_row h) (fun cdv A outer s H vs Q E hr h => ⟨t__law_pr_is_row K, PSs.nox ?_, pure__law_pr_is_row K vs H Q E h⟩), F.bindsN (fun _ _ _ _ _ _ us hl => match us, hl with | [_, _], _ => rfl), T.g__law_pr_is_row, F.kp⟩
  exact (pss_cons (ps_if (PW.pt (pw_or (pt_not (pt_val (pe_callB call_isi (by rfl) hf_isinstance (by decide +kernel) (pa_cons (pv 1) (pa_cons (pe_bltn (v := .ty "tuple") rfl hf_tuple (by decide +kernel) rfl) pa_nil))))) (pw_or (pt_cmpR op_ne (pe_callB call_len_seq (by rfl) hf_len (by decide +kernel) (pa_cons (pv 1) pa_nil)) pe_int (nomark _)) (pw_or (pt_not (pt_val (pe_call F__law_pr_is_whole (hr.mono (by decide)) rfl g__law_pr_is_whole k__law_pr_is_whole b__law_pr_is_whole .nil pass0 (pa_cons (pe_ix ix_lt (pv 1) pe_int (fun _ _ => rfl)) pa_nil)))) (pw_or1 (pt_not (pt_val (pe_call F__law_pr_is_whole (hr.mono (by decide)) rfl g__law_pr_is_whole k__law_pr_is_whole b__law_pr_is_whole .nil pass0 (pa_cons (pe_ix ix_lt (pv 1) pe_int (fun _ _ => rfl)) pa_nil))))))))) (pss_one (ps_ret pe_bl)) pss_nil)
      (pss_cons (ps_asg (pv 1) (pg_tup rfl (pgs_cons (pg_name (i := 2) sc__law_pr_is_row.nd rfl (by first | exact Or.inl rfl | exact Or.inr rfl)) (pgs_cons (pg_name (i := 3) sc__law_pr_is_row.nd rfl (by first | exact Or.inl rfl | exact Or.inr rfl)) (pgs_cons (pg_name (i := 4) sc__law_pr_is_row.nd rfl (by first | exact Or.inl rfl | exact Or.inr rfl)) pgs_nil)))))
      (pss_cons (ps_if (PW.pt (pw_or (pt_cmpR op_le (pv 2) (pe_ix ix_lt (pv 0) (pe_un un_neg pe_int) (fun _ _ => rfl)) (nomark _)) (pw_or (pt_not (pt_chain op_le op_lt pe_int (pv 3) (pv 2))) (pw_or1 (pt_not (pt_val (pe_callB call_isi (by rfl) hf_isinstance (by decide +kernel) (pa_cons (pv 4) (pa_cons (pe_bltn (v := .ty "tuple") rfl hf_tuple (by decide +kernel) rfl) pa_nil))))))))) (pss_one (ps_ret pe_bl)) pss_nil)
      (pss_cons (ps_asg (pe_tup (pa_cons pe_int (pa_cons pe_int pa_nil))) (pg_tup rfl (pgs_cons (pg_name (i := 5) sc__law_pr_is_row.nd rfl (by first | exact Or.inl rfl | exact Or.inr rfl)) (pgs_cons (pg_name (i := 6) sc__law_pr_is_row.nd rfl (by first | exact Or.inl rfl | exact Or.inr rfl)) pgs_nil))))
      (pss_cons (ps_for PassesOwn.never rfl (pi_tup (pv 4)) (pg_name (i := 7) sc__law_pr_is_row.nd rfl (by first | exact Or.inl rfl | exact Or.inr rfl)) (pss_cons (ps_if (PW.pt (pw_or (pt_not (pt_val (pe_callB call_isi (by rfl) hf_isinstance (by decide +kernel) (pa_cons (pv 7) (pa_cons (pe_bltn (v := .ty "tuple") rfl hf_tuple (by decide +kernel) rfl) pa_nil))))) (pw_or (pt_cmpR op_ne (pe_callB call_len_seq (by rfl) hf_len (by decide +kernel) (pa_cons (pv 7) pa_nil)) pe_int (nomark _)) (pw_or (pt_not (pt_val (pe_call F__law_pr_is_whole (hr.mono (by decide)) rfl g__law_pr_is_whole k__law_pr_is_whole b__law_pr_is_whole .nil pass0 (pa_cons (pe_ix ix_lt (pv 7) pe_int (fun _ _ => rfl)) pa_nil)))) (pw_or1 (pt_not (pt_val (pe_call F__law_pr_is_whole (hr.mono (by decide)) rfl g__law_pr_is_whole k__law_pr_is_whole b__law_pr_is_whole .nil pass0 (pa_cons (pe_ix ix_lt (pv 7) pe_int (fun _ _ => rfl)) pa_nil))))))))) (pss_one (ps_ret pe_bl)) pss_nil)
      (pss_cons (ps_if (PW.pt (pw_or (pt_cmpR op_le (pe_ix ix_lt (pv 7) pe_int (fun _ _ => rfl)) (pv 6) (nomark _)) (pw_or (pt_cmpR op_notIn_seq (pe_ix ix_lt (pv 7) pe_int (fun _ _ => rfl)) (pv 0) rfl) (pw_or1 (pt_not (pt_chain op_le op_le pe_int (pe_ix ix_lt (pv 7) pe_int (fun _ _ => rfl)) pe_int)))))) (pss_one (ps_ret pe_bl)) pss_nil)
      (pss_cons (ps_par (i := 5) (j := 6) rfl sc__law_pr_is_row.nd rfl rfl (by decide) rfl rfl (pa_cons (pe_op op_mulU (pv 5) (pe_call F__law_pr_times (hr.mono (by decide)) rfl g__law_pr_times k__law_pr_times b__law_pr_times .nil pass0 (pa_cons (pe_ix ix_lt (pv 7) pe_int (fun _ _ => rfl)) (pa_cons (pe_ix ix_lt (pv 7) pe_int (fun _ _ => rfl)) pa_nil)))) (pa_cons (pe_ix ix_lt (pv 7) pe_int (fun _ _ => rfl)) pa_nil)) (by rfl))
      (pss_one (ps_if (pt_cmpR op_eq (pe_call F__law_pr_power (hr.mono (by decide)) rfl g__law_pr_power k__law_pr_power b__law_pr_power .nil pass0 (pa_cons (pv 3) (pa_cons (pe_op op_fdivW (pe_op op_sub (pv 2) pe_int) (pe_ix ix_lt (pv 7) pe_int (fun _ _ => rfl))) (pa_cons (pv 2) pa_nil)))) pe_int (nomark _)) (pss_one (ps_ret pe_bl)) pss_nil))))))
      (pss_one (ps_ret (pe_and (pe_cmpR op_eq (pv 5) (pe_op op_sub (pv 2) pe_int) (nomark _)) (pe_one (pe_cmpR op_eq (pe_call F__law_pr_power (hr.mono (by decide)) rfl g__law_pr_power k__law_pr_power b__law_pr_power .nil pass0 (pa_cons (pv 3) (pa_cons (pe_op op_sub (pv 2) pe_int) (pa_cons (pv 2) pa_nil)))) pe_int (nomark _)))))))))))
/-! ### _law_is_split -/
theorem sc__law_is_split : FnScope ["number", "value", "one"] ["number", "value"] (defScope s__law_is_split) := ⟨rfl, rfl, rfl, by decide +kernel, rfl, by decide +kernel, by decide +kernel⟩
def sp__law_is_split (K : PySem.W.Frag) : Sp := fun vs H Q _ => ∃ nq : Nat × Nat × Nat × Addr, vs = [.int (nq.1 : Int), .ref nq.2.2.2] ∧ H nq.2.2.2 = some (.tup [.int (nq.2.1 : Int), .int (nq.2.2.1 : Int)]) ∧ 2 ≤ nq.2.1 ∧ 2 ≤ nq.2.2.1 ∧ nq.2.1 < 2 ^ 40 ∧ nq.2.1 * nq.2.2.1 = nq.1 ∧ ∀ H', Same H H' → Q (.bl true) H'
theorem len__law_is_split {K : PySem.W.Frag} {vs : List V} {H : Hp} {Q : VK} {E : XK} (h : sp__law_is_split K vs H Q E) : vs.length = ["number", "value"].length := by
  obtain ⟨_, rfl, _⟩ := h
  rfl
def t__law_is_split (K : PySem.W.Frag) : TS := (tSeq (tIfS (tOr (tNot (tB (tCB (rIsi K) (tCons (tVar 1) (tCons (tC (.ty "tuple")) tNil))))) (tOr (tTest (tOp rNe (tCB (rLenU K) (tCons (tVar 1) tNil)) (tC (.int 2)))) (tTest (tOp (rNeD K) (tLc (iTup K (tVar 1)) (gName 2) (tNot (tB (tCall (sp__law_pr_is_whole K) [] E0 (tCons (tVar 2) tNil)))) (tVar 2) [2]) (tLst tNil))))) (tRet (tC (.bl false))) tNext)
  (tRet (tAndV (tOp rGeI (tCB (rMinT) (tCons (tVar 1) tNil)) (tC (.int 2))) (tOp rEq (tOp rMulU (tOp (rIxA K) (tVar 1) (tC (.int 0))) (tOp (rIxA K) (tVar 1) (tC (.int 1)))) (tVar 0)))))
theorem ne_empty {K : PySem.W.Frag} {H : Hp} {p q : Addr} {Q : VK} (h : H p = some (.lst [])) (h2 : H q = some (.lst [])) (q9 : Q (.bl false) H) : rNeD K (.ref p) (.ref q) H Q :=
  ⟨_, _, .lst (sqL_of h) .nil, .lst (sqL_of h2) .nil, rfl, rfl, q9⟩
theorem pure__law_is_split (K : PySem.W.Frag) (vs : List V) (H : Hp) (Q : VK) (E : XK) (h : sp__law_is_split K vs H Q E) : t__law_is_split K { nx := fun _ H' => Q .non H', rt := Q } (start ["number", "value", "one"] vs) H := by
  obtain ⟨⟨n, q, r, T⟩, rfl, hT, q2, r2, qb, hqr, hq⟩ := h
  dsimp only at *
  unfold t__law_is_split
  walk_at "z"
  refine isi_tup hT ?_
  walk_at "z"
  refine lenT (sqT_of hT) ?_
  walk_at "z"
  refine ⟨T, rfl, ⟨_, sqT_of hT⟩, comp_T (sqT_of hT) (fun _ => none) (by simp) (fun i x H' hx s Qo hQo => ?_) (fun D H' s hD => ?_)⟩
  · have hx2 : ∃ k : Int, x = .int k := by
      match i, hx with
      | 0, hx => simp at hx; exact ⟨_, hx.symm⟩
      | 1, hx => simp at hx; exact ⟨_, hx.symm⟩
      | i + 2, hx => simp at hx
    obtain ⟨k, rfl⟩ := hx2
    walk_at "z"
    refine ⟨k, rfl, ?_⟩
    walk_at "z"
    exact hQo H' (Same.refl _)
  · walk_at "z"
    refine ⟨by decide, fun R hR => ?_⟩
    have sR := same_upd (o := .lst []) hR
    have hD0 : H' D = some (.lst []) := by
      rw [hD]
      congr 2
    refine ne_empty (sR _ _ hD0) upd_same ?_
    walk_at "z"
    have hT2 := sR _ _ (s _ _ hT)
    refine ⟨T, [(q : Int), (r : Int)], rfl, hT2, by simp, fun m hm hmin => ?_⟩
    walk_at "z"
    have m2 : 2 ≤ m := by
      simp only [List.mem_cons, List.not_mem_nil, or_false] at hm
      omega
    rw [if_pos (by omega)]
    refine ixT (sqT_of hT2) (v := .int (q : Int)) rfl ?_
    refine ixT (sqT_of hT2) (v := .int (r : Int)) rfl ?_
    walk_at "z"
    refine ⟨mulS (by omega), ?_⟩
    have e : decide ((q : Int) * (r : Int) = (n : Int)) = true := by
      rw [decide_eq_true_eq, ← hqr]
      push_cast
      rfl
    rw [e]
    exact hq _ (s.trans sR)

theorem ok__law_is_split {P : Program} {w : World} {K : PySem.W.Frag} {mg : Str → Option Value} {base : Heap} (T : Tx K mg) : Okk P w K mg base 2 "_law_is_split" ["number", "value"] (sp__law_is_split K) := by
  obtain ⟨fd__law_pr_is_whole, F__law_pr_is_whole, b__law_pr_is_whole, g__law_pr_is_whole, k__law_pr_is_whole⟩ := ok__law_pr_is_whole (P := P) (w := w) (base := base) T
  have hf_isinstance := T.n_isinstance
  have hf_len := T.n_len
  have hf_min := T.n_min
  have hf_tuple := T.n_tuple
  obtain ⟨fd, F⟩ := T.f__law_is_split
  refine ⟨fd, F.ok sc__law_is_split (fun vs H Q E h => len__law_is_split h) (fun cdv A outer s H vs Q E hr h => ⟨t__law_is_split K, PSs.nox ?_, pure__law_is_split K vs H Q E h⟩), F.bindsN (fun _ _ _ _ _ _ us hl => match us, hl with | [_, _], _ => rfl), T.g__law_is_split, F.kp⟩
  have hu64 := hu64_of hr
  exact (pss_cons (ps_if (PW.pt (pw_or (pt_not (pt_val (pe_callB call_isi (by rfl) hf_isinstance (by decide +kernel) (pa_cons (pv 1) (pa_cons (pe_bltn (v := .ty "tuple") rfl hf_tuple (by decide +kernel) rfl) pa_nil))))) (pw_or (pt_cmpR op_ne (pe_callB call_len_seq (by rfl) hf_len (by decide +kernel) (pa_cons (pv 1) pa_nil)) pe_int (nomark _)) (pw_or1 (pt_cmpR (op_neD hu64) (pe_lc (own := [("one", 2)]) (g := (gName 2)) (tt := (tNot (tB (tCall (sp__law_pr_is_whole K) [] E0 (tCons (tVar 2) tNil))))) rfl sc__law_is_split.nd (pi_tup (pv 1)) (blkOk_by (own := [("one", 2)]) (N := ["number", "value", "one"]) (sc := defScope s__law_is_split) (by decide +kernel)) (fun _ _ _ _ _ => (pg_name (i := 2) sc__law_is_split.nd rfl (by first | exact Or.inl rfl | exact Or.inr rfl))) (fun _ _ _ _ _ => (pts_one (pt_not (pt_val (pe_call F__law_pr_is_whole (hr.mono (by decide)) rfl g__law_pr_is_whole k__law_pr_is_whole b__law_pr_is_whole .nil pass0 (pa_cons (pv 2) pa_nil)))))) (fun _ _ _ _ _ => (pv 2))) (pe_lst pa_nil) (nomark _)))))) (pss_one (ps_ret pe_bl)) pss_nil)
      (pss_one (ps_ret (pe_and (pe_cmpR op_ge (pe_callB (cr_minT rfl) (by rfl) hf_min (by decide +kernel) (pa_cons (pv 1) pa_nil)) pe_int (nomark _)) (pe_one (pe_cmpR op_eq (pe_op op_mulU (pe_ix ix_lt (pv 1) pe_int (fun _ _ => rfl)) (pe_ix ix_lt (pv 1) pe_int (fun _ _ => rfl))) (pv 0) (nomark _)))))))
/-! ### _law_pr_is_paper -/
theorem sc__law_pr_is_paper : FnScope ["number", "value", "known", "row"] ["number", "value"] (defScope s__law_pr_is_paper) := ⟨rfl, rfl, rfl, by decide +kernel, rfl, by decide +kernel, by decide +kernel⟩
/-- a told row -/
abbrev RowT := (Nat × Nat) × List (Nat × Nat)
def PaperGood (n : Nat) (rs : List RowT) : Prop :=
  (rs = [] ↔ n = 2) ∧ (∀ i r, rs[i]? = some r → RowGood (2 :: (rs.take i).map fun r => r.1.1) r.1.1 r.1.2 r.2) ∧ (2 :: rs.map fun r => r.1.1).getLast? = some n
def sp__law_pr_is_paper (K : PySem.W.Frag) : Sp := fun vs H Q _ => ∃ (n : Nat) (T : Addr) (xs : List V) (rs : List RowT), vs = [.int (n : Int), .ref T] ∧ H T = some (.tup xs) ∧ Paired (fun v r => RowP H v r.1.1 r.1.2 r.2) xs rs ∧ rs.length < 2 ^ 19 ∧ (∀ r ∈ rs, 2 ≤ r.1.1 ∧ r.1.1 < 2 ^ 40 ∧ SmallP r.2) ∧ ∀ (b : Bool) H', (b = true ↔ PaperGood n rs) → Same H H' → Q (.bl b) H'
theorem len__law_pr_is_paper {K : PySem.W.Frag} {vs : List V} {H : Hp} {Q : VK} {E : XK} (h : sp__law_pr_is_paper K vs H Q E) : vs.length = ["number", "value"].length := by
  obtain ⟨_, _, _, _, rfl, _⟩ := h
  rfl
def t__law_pr_is_paper_f1_b (K : PySem.W.Frag) : TS := (tSeq (tIfS (tNot (tB (tCall (sp__law_pr_is_row K) [] E0 (tCons (tVar 2) (tCons (tVar 3) tNil))))) (tRet (tC (.bl false))) tNext)
  (tDrop (tBM K "list" rAppend (tVar 2) (tCons (tOp (rIxA K) (tVar 3) (tC (.int 0))) tNil))))
def t__law_pr_is_paper (K : PySem.W.Frag) : TS := (tSeq (tIfS (tOr (tNot (tB (tCB (rIsi K) (tCons (tVar 1) (tCons (tC (.ty "tuple")) tNil))))) (tTest (tOp rNe (tOp (rEqD K) (tVar 1) (tTup tNil)) (tOp rEq (tVar 0) (tC (.int 2)))))) (tRet (tC (.bl false))) tNext)
  (tSeq (tAsg (tLst (tCons (tC (.int 2)) tNil)) (gName 2))
  (tSeq (tFor (iTup K (tVar 1)) (gName 3) (t__law_pr_is_paper_f1_b K))
  (tRet (tOp rEq (tOp (rIxA K) (tVar 2) (tUn rNeg (tC (.int 1)))) (tVar 0))))))
theorem ne_bl {a b : Bool} {H : Hp} {Q : VK} (q : Q (.bl (a != b)) H) : rNe (.bl a) (.bl b) H Q := ⟨rfl, by cases a <;> cases b <;> simpa using q⟩
theorem pr_dp {K : PySem.W.Frag} {H : Hp} : ∀ {xs : List V} {ps : List (Nat × Nat)}, PR H xs ps → ∃ ds, DpAll K H xs ds ∧ PyData.canLayAll0 ds = true ∧ PyData.depthAll ds ≤ 2
  | _, _, .nil => ⟨[], .nil, rfl, by simp [PyData.depthAll]⟩
  | _, _, .cons (b := q) ⟨t, e, h⟩ r => by
    obtain ⟨ds, g1, g2, g3⟩ := pr_dp (K := K) r
    subst e
    refine ⟨.tuple [.int q.1, .int q.2] :: ds, .cons (.tup (sqT_of h) (.cons (.int _) (.cons (.int _) .nil))) g1, ?_, ?_⟩
    · simp only [PyData.canLayAll0, PyData.canLay0, g2, Bool.and_self]
    · simp only [PyData.depthAll, PyData.depth]; omega
theorem rows_dp {K : PySem.W.Frag} {H : Hp} : ∀ {xs : List V} {rs : List RowT}, Paired (fun v r => RowP H v r.1.1 r.1.2 r.2) xs rs → ∃ ds, DpAll K H xs ds ∧ ds.length = xs.length ∧ PyData.canLayAll0 ds = true ∧ PyData.depthAll ds ≤ 5
  | _, _, .nil => ⟨[], .nil, rfl, rfl, by simp [PyData.depthAll]⟩
  | _, _, .cons (b := q) ⟨a, T, ys, e, h1, h2, h3⟩ r => by
    obtain ⟨ds, g1, g4, g2, g3⟩ := rows_dp (K := K) r
    obtain ⟨es, e1, e2, e3⟩ := pr_dp (K := K) h3
    subst e
    refine ⟨.tuple [.int q.1.1, .int q.1.2, .tuple es] :: ds, .cons (.tup (sqT_of h1) (.cons (.int _) (.cons (.int _) (.cons (.tup (sqT_of h2) e1) .nil)))) g1, by simp [g4], ?_, ?_⟩
    · simp only [PyData.canLayAll0, PyData.canLay0, g2, e2, Bool.and_self]
    · simp only [PyData.depthAll, PyData.depth]; omega
theorem eqv_nil : ∀ ds : List PyData, PyData.eqvAll ds [] = decide (ds.length = 0)
  | [] => rfl
  | _ :: _ => rfl
theorem cmp_empty {K : PySem.W.Frag} {H : Hp} {p q : Addr} {vs : List V} {rs : List RowT} (h : H p = some (.tup vs)) (h2 : H q = some (.tup [])) (hd : Paired (fun v r => RowP H v r.1.1 r.1.2 r.2) vs rs) {Q : VK} (q9 : Q (.bl (decide (rs = []))) H) : rEqD K (.ref p) (.ref q) H Q := by
  obtain ⟨ds, g1, g2, g3, g4⟩ := rows_dp (K := K) hd
  have e : PyData.eqv (.tuple ds) (.tuple []) = decide (rs = []) := by
    simp only [PyData.eqv, eqv_nil, g2]
    rw [Paired.length hd, Bool.eq_iff_iff, decide_eq_true_eq, decide_eq_true_eq, List.length_eq_zero_iff]
  have c1 : PyData.canLay0 (.tuple ds) = true := by
    simp only [PyData.canLay0]
    exact g3
  have c2 : PyData.depth (.tuple ds) ≤ 64 := by
    simp only [PyData.depth]
    omega
  have s1 : SeqAt.shaped (.tuple ds) = true := by
    unfold SeqAt.shaped
    rw [c1, decide_eq_true c2]
    rfl
  exact ⟨_, _, .tup (sqT_of h) g1, .tup (sqT_of h2) .nil, s1, rfl, by rw [e]; exact q9⟩
theorem paired_get {α β : Type} {F : α → β → Prop} : ∀ {xs : List α} {rs : List β}, Paired F xs rs → ∀ {i : Nat} {x : α}, xs[i]? = some x → ∃ r, rs[i]? = some r ∧ F x r
  | _, _, .nil, i, x, h => by simp at h
  | _, _, .cons f t, 0, x, h => by
    simp only [List.getElem?_cons_zero, Option.some.injEq] at h
    subst h
    exact ⟨_, rfl, f⟩
  | _, _, .cons f t, i + 1, x, h => by
    rw [List.getElem?_cons_succ] at h
    obtain ⟨r, h1, h2⟩ := paired_get t h
    exact ⟨r, by rw [List.getElem?_cons_succ]; exact h1, h2⟩
theorem pure__law_pr_is_paper (K : PySem.W.Frag) (vs : List V) (H : Hp) (Q : VK) (E : XK) (h : sp__law_pr_is_paper K vs H Q E) : t__law_pr_is_paper K { nx := fun _ H' => Q .non H', rt := Q } (start ["number", "value", "known", "row"] vs) H := by
  obtain ⟨n, T, xs, rs, rfl, hT, hP, hl, hb, hq⟩ := h
  unfold t__law_pr_is_paper
  walk_at "z"
  refine isi_tup hT ?_
  walk_at "z"
  refine ⟨by decide, fun t0 ht0 => ?_⟩
  have s0 := same_upd (o := .tup []) ht0
  refine cmp_empty (s0 _ _ hT) upd_same (paired_map hP fun v r h => h.same s0) ?_
  walk_at "z"
  refine ne_bl ?_
  walk_at "z"
  have no : ¬ (rs = [] ↔ n = 2) → Q (.bl false) (upd H t0 (.tup [])) := fun h => hq false _ (bfalse fun g => h g.1) s0
  by_cases c1 : (rs = [] ↔ n = 2)
  rotate_left
  · have e : (decide (rs = []) != decide ((n : Int) = 2)) = true := by
      by_cases a : rs = [] <;> by_cases b : n = 2 <;> simp [a, b] at c1 ⊢ <;> omega
    rw [e]
    walk_at "z"
    exact no c1
  have e : (decide (rs = []) != decide ((n : Int) = 2)) = false := by
    by_cases a : rs = [] <;> by_cases b : n = 2 <;> simp [a, b] at c1 ⊢ <;> omega
  rw [e]
  walk_at "z"
  refine ⟨by decide, fun L hL => ?_⟩
  have hL0 : H L = none := by
    refine Classical.byContradiction fun c => ?_
    obtain ⟨o, ho⟩ := Option.ne_none_iff_exists'.mp c
    rw [s0 _ _ ho] at hL
    cases hL
  refine ⟨T, rfl, ⟨xs, sqT_of (same_upd hL _ _ (s0 _ _ hT))⟩, for_T (xs := xs) (fun i σ H' => ∃ o, σ = [some (.int (n : Int)), some (.ref T), some (.ref L), o] ∧ Same H H' ∧ H' L = some (.lst ((2 :: (rs.take i).map fun r => r.1.1).map fun k : Nat => V.int (k : Int))) ∧ ∀ j r, j < i → rs[j]? = some r → RowGood (2 :: (rs.take j).map fun r => r.1.1) r.1.1 r.1.2 r.2) ⟨_, rfl, s0.trans (same_upd hL), upd_same, fun j r h => by omega⟩ (fun i σ H' _ h => by obtain ⟨_, _, s, _⟩ := h; exact sqT_of (s _ _ hT)) (fun i x σ H' hx h N hN => ?_) (fun σ H' h => ?_)⟩
  · obtain ⟨o, rfl, s1, hLl, hgood⟩ := h
    obtain ⟨r, hri, hrow⟩ := paired_get hP hx
    have hrb := hb r (List.mem_of_getElem? hri)
    have hil : i < rs.length := (List.getElem?_eq_some_iff.mp hri).1
    unfold t__law_pr_is_paper_f1_b
    walk_at "z"
    refine ⟨L, 2 :: (rs.take i).map (fun r => r.1.1), x, r.1, r.2, rfl, hLl, by simp, by simp; omega, hrow.same s1, hrb.1, hrb.2.1, hrb.2.2, fun b H2 hb2 s2 => ?_⟩
    walk_at "z"
    cases b with
    | false =>
      rw [if_pos rfl]
      exact hq false _ (bfalse fun g => by have := hb2.mpr (g.2.1 i r hri); cases this) (s1.trans s2)
    | true =>
      rw [if_neg (by decide)]
      obtain ⟨a, T2, ys, rfl, ha, _⟩ := (hrow.same s1).same s2
      refine ⟨tyL (s2 _ _ hLl), ixT (sqT_of ha) (v := .int (r.1.1 : Int)) rfl ?_⟩
      refine ⟨L, _, _, rfl, rfl, s2 _ _ hLl, small_size (by simp; omega), ?_⟩
      walk_at "z"
      refine hN _ _ ⟨_, rfl, same_mut (s1.trans s2) hL0, ?_, fun j r' hj hr' => ?_⟩
      · rw [upd_same, show rs.take (i + 1) = rs.take i ++ [r] by
          obtain ⟨h1, rfl⟩ := List.getElem?_eq_some_iff.mp hri
          exact List.take_succ_eq_append_getElem h1]
        simp
      · by_cases e : j = i
        · subst e
          rw [hri] at hr'
          cases hr'
          exact hb2.mp rfl
        · exact hgood j r' (by omega) hr'
  · obtain ⟨o, rfl, s1, hLl, hgood⟩ := h
    have hlen : xs.length = rs.length := Paired.length hP
    rw [hlen, List.take_length] at hLl
    walk_at "z"
    obtain ⟨k, ek⟩ : ∃ k, (2 :: rs.map fun r => r.1.1).getLast? = some k := ⟨_, List.getLast?_eq_some_getLast (by simp)⟩
    refine last_ix hLl ek ?_
    walk_at "z"
    refine hq _ _ ?_ s1
    rw [decide_eq_true_eq]
    constructor
    · intro h
      refine ⟨c1, fun i r hi => hgood i r ?_ hi, ?_⟩
      · have := (List.getElem?_eq_some_iff.mp hi).1
        omega
      · rw [ek]; congr 1; omega
    · intro h
      have := h.2.2
      rw [ek] at this
      cases this
      rfl
theorem ok__law_pr_is_paper {P : Program} {w : World} {K : PySem.W.Frag} {mg : Str → Option Value} {base : Heap} (T : Tx K mg) : Okk P w K mg base 3 "_law_pr_is_paper" ["number", "value"] (sp__law_pr_is_paper K) := by
  obtain ⟨fd__law_pr_is_row, F__law_pr_is_row, b__law_pr_is_row, g__law_pr_is_row, k__law_pr_is_row⟩ := ok__law_pr_is_row (P := P) (w := w) (base := base) T
  have hf_isinstance := T.n_isinstance
  have hf_tuple := T.n_tuple
  obtain ⟨fd, F⟩ := T.f__law_pr_is_paper
  refine ⟨fd, F.ok sc__law_pr_is_paper (fun vs H Q E h => len__law_pr_is_paper h) (fun cdv A outer s H vs Q E hr h => ⟨t__law_pr_is_paper K, PSs.nox ?_, pure__law_pr_is_paper K vs H Q E h⟩), F.bindsN (fun _ _ _ _ _ _ us hl => match us, hl with | [_, _], _ => rfl), T.g__law_pr_is_paper, F.kp⟩
  have hu64 := hu64_of hr
  exact (pss_cons (ps_if (PW.pt (pw_or (pt_not (pt_val (pe_callB call_isi (by rfl) hf_isinstance (by decide +kernel) (pa_cons (pv 1) (pa_cons (pe_bltn (v := .ty "tuple") rfl hf_tuple (by decide +kernel) rfl) pa_nil))))) (pw_or1 (pt_cmpR op_ne (pe_cmpR (op_eqD hu64) (pv 1) (pe_tup pa_nil) (nomark _)) (pe_cmpR op_eq (pv 0) pe_int (nomark _)) (nomark _))))) (pss_one (ps_ret pe_bl)) pss_nil)
      (pss_cons (ps_set (i := 2) sc__law_pr_is_paper.nd rfl (by first | exact Or.inl rfl | exact Or.inr rfl) (pe_lst (pa_cons pe_int pa_nil)))
      (pss_cons (ps_for PassesOwn.never rfl (pi_tup (pv 1)) (pg_name (i := 3) sc__law_pr_is_paper.nd rfl (by first | exact Or.inl rfl | exact Or.inr rfl)) (pss_cons (ps_if (pt_not (pt_val (pe_call F__law_pr_is_row (hr.mono (by decide)) rfl g__law_pr_is_row k__law_pr_is_row b__law_pr_is_row .nil pass0 (pa_cons (pv 2) (pa_cons (pv 3) pa_nil))))) (pss_one (ps_ret pe_bl)) pss_nil)
      (pss_one (ps_expr (pe_bm PySem.F.plainAttrs_list PySem.F.slot_list_append PySem.F.type_list_append mt_append (pv 2) (pa_cons (pe_ix ix_lt (pv 3) pe_int (fun _ _ => rfl)) pa_nil))))))
      (pss_one (ps_ret (pe_cmpR op_eq (pe_ix ix_lt (pv 2) (pe_un un_neg pe_int) (fun _ _ => rfl)) (pv 0) (nomark _)))))))
/-! ### _law_pr_drawn -/
theorem sc__law_pr_drawn : FnScope ["dice", "some", "way"] ["dice"] (defScope s__law_pr_drawn) := ⟨rfl, rfl, rfl, by decide +kernel, rfl, by decide +kernel, by decide +kernel⟩
def sp__law_pr_drawn (K : PySem.W.Frag) : Sp := fun vs H Q _ => ∃ d : Addr, vs = [.ref d] ∧ Dice H d ∧ ∀ (n : Nat) H', n ≤ 10 ^ 8 → Keep d H H' → Dice H' d → Q (.int (n : Int)) H'
theorem len__law_pr_drawn {K : PySem.W.Frag} {vs : List V} {H : Hp} {Q : VK} {E : XK} (h : sp__law_pr_drawn K vs H Q E) : vs.length = ["dice"].length := by
  obtain ⟨_, rfl, _⟩ := h
  rfl
def t__law_pr_drawn (K : PySem.W.Frag) : TS := (tSeq (tAsg (tLst (tCons (tC (.int 2)) (tCons (tC (.int 3)) (tCons (tC (.int 5)) (tCons (tC (.int 7)) (tCons (tC (.int 11)) (tCons (tC (.int 13)) (tCons (tC (.int 17)) (tCons (tC (.int 19)) (tCons (tC (.int 23)) (tCons (tC (.int 29)) (tCons (tC (.int 31)) (tCons (tC (.int 37)) (tCons (tC (.int 41)) (tCons (tC (.int 43)) (tCons (tC (.int 47)) (tCons (tC (.int 53)) (tCons (tC (.int 59)) (tCons (tC (.int 61)) (tCons (tC (.int 67)) (tCons (tC (.int 71)) (tCons (tC (.int 73)) (tCons (tC (.int 79)) (tCons (tC (.int 83)) (tCons (tC (.int 89)) (tCons (tC (.int 97)) (tCons (tC (.int 101)) (tCons (tC (.int 251)) (tCons (tC (.int 991)) tNil))))))))))))))))))))))))))))) (gName 1))
  (tSeq (tAsg (tCall (sp__law_roll K) [] E0 (tCons (tVar 0) (tCons (tC (.int 8)) tNil))) (gName 2))
  (tSeq (tIfS (tTest (tOp rLtI (tVar 2) (tC (.int 2)))) (tRet (tCall (sp__law_roll K) [] E0 (tCons (tVar 0) (tCons (tIf (tTest (tOp rEq (tVar 2) (tC (.int 0)))) (tC (.int 90)) (tC (.int 4000))) tNil)))) tNext)
  (tSeq (tIfS (tTest (tOp rEq (tVar 2) (tC (.int 2)))) (tRet (tOp rMulU (tCall (sp__law_pick K) [] E0 (tCons (tVar 0) (tCons (tVar 1) tNil))) (tCall (sp__law_pick K) [] E0 (tCons (tVar 0) (tCons (tVar 1) tNil))))) tNext)
  (tSeq (tIfS (tTest (tOp rEq (tVar 2) (tC (.int 3)))) (tRet (tCall (sp__law_pr_times K) [] E0 (tCons (tCall (sp__law_pick K) [] E0 (tCons (tVar 0) (tCons (tSl (rSlL K) (tVar 1) tNoPart (tPart (tC (.int 6)))) tNil))) (tCons (tOp rAdd (tC (.int 1)) (tCall (sp__law_roll K) [] E0 (tCons (tVar 0) (tCons (tC (.int 7)) tNil)))) tNil)))) tNext)
  (tSeq (tIfS (tTest (tOp rEq (tVar 2) (tC (.int 4)))) (tRet (tCall (sp__law_pick K) [] E0 (tCons (tVar 0) (tCons (tLst (tCons (tC (.int 341)) (tCons (tC (.int 561)) (tCons (tC (.int 1105)) (tCons (tC (.int 2047)) (tCons (tC (.int 6601)) (tCons (tC (.int 65537)) (tCons (tC (.int 99460729)) (tCons (tC (.int 99999989)) (tCons (tC (.int 99999990)) (tCons (tC (.int 100000000)) (tCons (tC (.int 16785407)) (tCons (tC (.int 30030)) tNil))))))))))))) tNil)))) tNext)
  (tSeq (tIfS (tTest (tOp rEq (tVar 2) (tC (.int 5)))) (tRet (tOp rMulU (tOp rMulU (tCall (sp__law_pick K) [] E0 (tCons (tVar 0) (tCons (tVar 1) tNil))) (tCall (sp__law_pick K) [] E0 (tCons (tVar 0) (tCons (tVar 1) tNil)))) (tCall (sp__law_pick K) [] E0 (tCons (tVar 0) (tCons (tSl (rSlL K) (tVar 1) tNoPart (tPart (tC (.int 14)))) tNil))))) tNext)
  (tRet (tCall (sp__law_roll K) [] E0 (tCons (tVar 0) (tCons (tOp rAdd (tCall (sp__law_pick K) [] E0 (tCons (tVar 0) (tCons (tLst (tCons (tOp rPowU (tC (.int 10)) (tC (.int 4))) (tCons (tOp rPowU (tC (.int 10)) (tC (.int 5))) (tCons (tOp rPowU (tC (.int 10)) (tC (.int 6))) (tCons (tOp rPowU (tC (.int 10)) (tC (.int 7))) (tCons (tOp rPowU (tC (.int 10)) (tC (.int 8))) tNil)))))) tNil))) (tC (.int 1))) tNil)))))))))))
theorem pure__law_pr_drawn (K : PySem.W.Frag) (vs : List V) (H : Hp) (Q : VK) (E : XK) (h : sp__law_pr_drawn K vs H Q E) : t__law_pr_drawn K { nx := fun _ H' => Q .non H', rt := Q } (start ["dice", "some", "way"] vs) H := by
  obtain ⟨d, rfl, hD, hq⟩ := h
  unfold t__law_pr_drawn
  walk_at "z"
  refine ⟨by decide, fun L hL => ?_⟩
  have hdL : d ≠ L := by
    obtain ⟨_, _, _, h⟩ := hD
    exact ne_of_none h hL
  have K0 : Keep d H (upd H L (.lst [V.int 2, V.int 3, V.int 5, V.int 7, V.int 11, V.int 13, V.int 17, V.int 19, V.int 23, V.int 29, V.int 31, V.int 37, V.int 41, V.int 43, V.int 47, V.int 53, V.int 59, V.int 61, V.int 67, V.int 71, V.int 73, V.int 79, V.int 83, V.int 89, V.int 97, V.int 101, V.int 251, V.int 991])) := (Keep.refl d H).new hL
  have D0 := hD.same (same_upd (o := .lst [V.int 2, V.int 3, V.int 5, V.int 7, V.int 11, V.int 13, V.int 17, V.int 19, V.int 23, V.int 29, V.int 31, V.int 37, V.int 41, V.int 43, V.int 47, V.int 53, V.int 59, V.int 61, V.int 67, V.int 71, V.int 73, V.int 79, V.int 83, V.int 89, V.int 97, V.int 101, V.int 251, V.int 991]) hL)
  have L0 := upd_same (H := H) (a := L) (o := .lst [V.int 2, V.int 3, V.int 5, V.int 7, V.int 11, V.int 13, V.int 17, V.int 19, V.int 23, V.int 29, V.int 31, V.int 37, V.int 41, V.int 43, V.int 47, V.int 53, V.int 59, V.int 61, V.int 67, V.int 71, V.int 73, V.int 79, V.int 83, V.int 89, V.int 97, V.int 101, V.int 251, V.int 991])
  have hS : ∀ v ∈ [V.int 2, V.int 3, V.int 5, V.int 7, V.int 11, V.int 13, V.int 17, V.int 19, V.int 23, V.int 29, V.int 31, V.int 37, V.int 41, V.int 43, V.int 47, V.int 53, V.int 59, V.int 61, V.int 67, V.int 71, V.int 73, V.int 79, V.int 83, V.int 89, V.int 97, V.int 101, V.int 251, V.int 991], ∃ k : Int, v = .int k ∧ 2 ≤ k ∧ k ≤ 991 := fun v hv => by
    simp only [List.mem_cons, List.not_mem_nil, or_false] at hv
    rcases hv with rfl | rfl | rfl | rfl | rfl | rfl | rfl | rfl | rfl | rfl | rfl | rfl | rfl | rfl | rfl | rfl | rfl | rfl | rfl | rfl | rfl | rfl | rfl | rfl | rfl | rfl | rfl | rfl <;> exact ⟨_, rfl, by decide, by decide⟩
  revert K0 D0 L0
  generalize upd H L _ = H0
  intro K0 D0 L0
  refine ⟨d, _, rfl, D0, by decide, by decide, fun way H1 w0 w1 k1 d1 => ?_⟩
  have K1 := K0.trans k1
  have L1 := k1 _ _ (Ne.symm hdL) L0
  walk_at "z"
  have nat : ∀ (r : Int) H', 0 ≤ r → r ≤ 10 ^ 8 → Keep d H H' → Dice H' d → Q (.int r) H' := fun r H' a b c e => by
    obtain ⟨k, rfl⟩ : ∃ k : Nat, r = k := ⟨r.toNat, by omega⟩
    exact hq k H' (by omega) c e
  have mulb : ∀ {x y X Y : Int}, 0 ≤ x → x ≤ X → 0 ≤ y → y ≤ Y → 0 ≤ x * y ∧ x * y ≤ X * Y := fun a b c e => ⟨Int.mul_nonneg a c, Int.mul_le_mul b e c (by omega)⟩
  by_cases c1 : way < 2
  · rw [if_pos c1]
    split <;> exact ⟨d, _, rfl, d1, by decide, by decide, fun r H2 a b k2 d2 => nat r H2 a (by omega) (K1.trans k2) d2⟩
  rw [if_neg c1]
  by_cases c2 : way = 2
  · rw [if_pos c2]
    walk_at "z"
    refine ⟨d, L, _, rfl, d1, hdL, L1, by simp, by simp, fun v H2 hv k2 d2 => ?_⟩
    obtain ⟨x, rfl, x1, x2⟩ := hS v hv
    refine ⟨d, L, _, rfl, d2, hdL, k2 _ _ (Ne.symm hdL) L1, by simp, by simp, fun v3 H3 hv3 k3 d3 => ?_⟩
    obtain ⟨y, rfl, y1, y2⟩ := hS v3 hv3
    walk_at "z"
    have := mulb (show 0 ≤ x by omega) x2 (show 0 ≤ y by omega) y2
    exact ⟨mulS (by omega), nat _ _ this.1 (by omega) ((K1.trans k2).trans k3) d3⟩
  rw [if_neg c2]
  by_cases c3 : way = 3
  · rw [if_pos c3]
    walk_at "z"
    refine ⟨L, _, rfl, sqL_of L1, fun M hM => ?_⟩
    have e6 : cutV [V.int 2, V.int 3, V.int 5, V.int 7, V.int 11, V.int 13, V.int 17, V.int 19, V.int 23, V.int 29, V.int 31, V.int 37, V.int 41, V.int 43, V.int 47, V.int 53, V.int 59, V.int 61, V.int 67, V.int 71, V.int 73, V.int 79, V.int 83, V.int 89, V.int 97, V.int 101, V.int 251, V.int 991] none (some 6) = [V.int 2, V.int 3, V.int 5, V.int 7, V.int 11, V.int 13] := rfl
    rw [e6]
    have dM : d ≠ M := by
      obtain ⟨_, _, _, h⟩ := d1
      exact ne_of_none h hM
    refine ⟨d, M, _, rfl, d1.same (same_upd hM), dM, upd_same, by simp, by simp, fun v H2 hv k2 d2 => ?_⟩
    have hk : ∃ k : Nat, v = .int (k : Int) ∧ 2 ≤ k ∧ k ≤ 13 := by
      simp only [List.mem_cons, List.not_mem_nil, or_false] at hv
      rcases hv with rfl | rfl | rfl | rfl | rfl | rfl
      · exact ⟨2, rfl, by decide, by decide⟩
      · exact ⟨3, rfl, by decide, by decide⟩
      · exact ⟨5, rfl, by decide, by decide⟩
      · exact ⟨7, rfl, by decide, by decide⟩
      · exact ⟨11, rfl, by decide, by decide⟩
      · exact ⟨13, rfl, by decide, by decide⟩
    obtain ⟨k, rfl, kk2, kk13⟩ := hk
    refine ⟨d, _, rfl, d2, by decide, by decide, fun r H3 a b k5 d3 => ?_⟩
    walk_at "z"
    refine ⟨_, _, rfl, by omega, by omega, by omega, by omega, ?_⟩
    have hp : k ^ (1 + r).toNat ≤ 10 ^ 8 := by
      have h1 := Nat.pow_le_pow_left kk13 (1 + r).toNat
      have h2 := Nat.pow_le_pow_right (show 0 < 13 by decide) (show (1 + r).toNat ≤ 7 by omega)
      omega
    have := hq (k ^ (1 + r).toNat) H3 hp (((K1.new hM).trans k2).trans k5) d3
    rwa [Int.natCast_pow] at this
  rw [if_neg c3]
  by_cases c4 : way = 4
  · rw [if_pos c4]
    walk_at "z"
    refine ⟨by decide, fun M hM => ?_⟩
    have dM : d ≠ M := by
      obtain ⟨_, _, _, h⟩ := d1
      exact ne_of_none h hM
    refine ⟨d, M, _, rfl, d1.same (same_upd hM), dM, upd_same, by simp, by simp, fun v H2 hv k2 d2 => ?_⟩
    have hk : ∃ k : Int, v = .int k ∧ 0 ≤ k ∧ k ≤ 10 ^ 8 := by
      simp only [List.mem_cons, List.not_mem_nil, or_false] at hv
      rcases hv with rfl | rfl | rfl | rfl | rfl | rfl | rfl | rfl | rfl | rfl | rfl | rfl <;> exact ⟨_, rfl, by decide, by decide⟩
    obtain ⟨k, rfl, k3, k4⟩ := hk
    exact nat k H2 k3 k4 ((K1.new hM).trans k2) d2
  rw [if_neg c4]
  by_cases c5 : way = 5
  · rw [if_pos c5]
    walk_at "z"
    refine ⟨d, L, _, rfl, d1, hdL, L1, by simp, by simp, fun v H2 hv k2 d2 => ?_⟩
    obtain ⟨x, rfl, x1, x2⟩ := hS v hv
    refine ⟨d, L, _, rfl, d2, hdL, k2 _ _ (Ne.symm hdL) L1, by simp, by simp, fun v3 H3 hv3 k3 d3 => ?_⟩
    obtain ⟨y, rfl, y1, y2⟩ := hS v3 hv3
    walk_at "z"
    have := mulb (show 0 ≤ x by omega) x2 (show 0 ≤ y by omega) y2
    refine ⟨mulS (by omega), ?_⟩
    refine ⟨L, _, rfl, sqL_of (k3 _ _ (Ne.symm hdL) (k2 _ _ (Ne.symm hdL) L1)), fun M hM => ?_⟩
    have e14 : cutV [V.int 2, V.int 3, V.int 5, V.int 7, V.int 11, V.int 13, V.int 17, V.int 19, V.int 23, V.int 29, V.int 31, V.int 37, V.int 41, V.int 43, V.int 47, V.int 53, V.int 59, V.int 61, V.int 67, V.int 71, V.int 73, V.int 79, V.int 83, V.int 89, V.int 97, V.int 101, V.int 251, V.int 991] none (some 14) = [V.int 2, V.int 3, V.int 5, V.int 7, V.int 11, V.int 13, V.int 17, V.int 19, V.int 23, V.int 29, V.int 31, V.int 37, V.int 41, V.int 43] := rfl
    rw [e14]
    have dM : d ≠ M := by
      obtain ⟨_, _, _, h⟩ := d3
      exact ne_of_none h hM
    refine ⟨d, M, _, rfl, d3.same (same_upd hM), dM, upd_same, by simp, by simp, fun v4 H4 hv4 k4 d4 => ?_⟩
    have hk : ∃ k : Int, v4 = .int k ∧ 0 ≤ k ∧ k ≤ 43 := by
      simp only [List.mem_cons, List.not_mem_nil, or_false] at hv4
      rcases hv4 with rfl | rfl | rfl | rfl | rfl | rfl | rfl | rfl | rfl | rfl | rfl | rfl | rfl | rfl <;> exact ⟨_, rfl, by decide, by decide⟩
    obtain ⟨z, rfl, z1, z2⟩ := hk
    walk_at "z"
    have h3 := mulb this.1 this.2 z1 z2
    exact ⟨mulS (by omega), nat _ _ h3.1 (by omega) ((((K1.trans k2).trans k3).new hM).trans k4) d4⟩
  rw [if_neg c5]
  walk_at "z"
  refine ⟨cpow (by decide), cpow (by decide), cpow (by decide), cpow (by decide), cpow (by decide), by decide, fun M hM => ?_⟩
  have dM : d ≠ M := by
    obtain ⟨_, _, _, h⟩ := d1
    exact ne_of_none h hM
  refine ⟨d, M, _, rfl, d1.same (same_upd hM), dM, upd_same, by simp, by simp, fun v H2 hv k2 d2 => ?_⟩
  have hk : ∃ k : Int, v = .int k ∧ 0 ≤ k ∧ k ≤ 10 ^ 8 := by
    simp only [List.mem_cons, List.not_mem_nil, or_false] at hv
    rcases hv with rfl | rfl | rfl | rfl | rfl <;> exact ⟨_, rfl, by decide, by decide⟩
  obtain ⟨k, rfl, k3, k4⟩ := hk
  walk_at "z"
  exact ⟨d, _, rfl, d2, by omega, by omega, fun r H3 a b k5 d3 => nat r H3 a (by omega) (((K1.new hM).trans k2).trans k5) d3⟩

theorem ok__law_pr_drawn {P : Program} {w : World} {K : PySem.W.Frag} {mg : Str → Option Value} {base : Heap} (T : Tx K mg) : Okk P w K mg base 3 "_law_pr_drawn" ["dice"] (sp__law_pr_drawn K) := by
  obtain ⟨fd__law_roll, F__law_roll, b__law_roll, g__law_roll, k__law_roll⟩ := ok__law_roll (P := P) (w := w) (base := base) T
  obtain ⟨fd__law_pick, F__law_pick, b__law_pick, g__law_pick, k__law_pick⟩ := ok__law_pick (P := P) (w := w) (base := base) T
  obtain ⟨fd__law_pr_times, F__law_pr_times, b__law_pr_times, g__law_pr_times, k__law_pr_times⟩ := ok__law_pr_times (P := P) (w := w) (base := base) T
  obtain ⟨fd, F⟩ := T.f__law_pr_drawn
  refine ⟨fd, F.ok sc__law_pr_drawn (fun vs H Q E h => len__law_pr_drawn h) (fun cdv A outer s H vs Q E hr h => ⟨t__law_pr_drawn K, PSs.nox ?_, pure__law_pr_drawn K vs H Q E h⟩), F.bindsN (fun _ _ _ _ _ _ us hl => match us, hl with | [_], _ => rfl), T.g__law_pr_drawn, F.kp⟩
  exact (pss_cons (ps_set (i := 1) sc__law_pr_drawn.nd rfl (by first | exact Or.inl rfl | exact Or.inr rfl) (pe_lst (pa_cons pe_int (pa_cons pe_int (pa_cons pe_int (pa_cons pe_int (pa_cons pe_int (pa_cons pe_int (pa_cons pe_int (pa_cons pe_int (pa_cons pe_int (pa_cons pe_int (pa_cons pe_int (pa_cons pe_int (pa_cons pe_int (pa_cons pe_int (pa_cons pe_int (pa_cons pe_int (pa_cons pe_int (pa_cons pe_int (pa_cons pe_int (pa_cons pe_int (pa_cons pe_int (pa_cons pe_int (pa_cons pe_int (pa_cons pe_int (pa_cons pe_int (pa_cons pe_int (pa_cons pe_int (pa_cons pe_int pa_nil))))))))))))))))))))))))))))))
      (pss_cons (ps_set (i := 2) sc__law_pr_drawn.nd rfl (by first | exact Or.inl rfl | exact Or.inr rfl) (pe_call F__law_roll (hr.mono (by decide)) rfl g__law_roll k__law_roll b__law_roll .nil pass0 (pa_cons (pv 0) (pa_cons pe_int pa_nil))))
      (pss_cons (ps_if (pt_cmpR op_lt (pv 2) pe_int (nomark _)) (pss_one (ps_ret (pe_call F__law_roll (hr.mono (by decide)) rfl g__law_roll k__law_roll b__law_roll .nil pass0 (pa_cons (pv 0) (pa_cons (pe_ifExp (pt_cmpR op_eq (pv 2) pe_int (nomark _)) pe_int pe_int) pa_nil))))) pss_nil)
      (pss_cons (ps_if (pt_cmpR op_eq (pv 2) pe_int (nomark _)) (pss_one (ps_ret (pe_op op_mulU (pe_call F__law_pick (hr.mono (by decide)) rfl g__law_pick k__law_pick b__law_pick .nil pass0 (pa_cons (pv 0) (pa_cons (pv 1) pa_nil))) (pe_call F__law_pick (hr.mono (by decide)) rfl g__law_pick k__law_pick b__law_pick .nil pass0 (pa_cons (pv 0) (pa_cons (pv 1) pa_nil)))))) pss_nil)
      (pss_cons (ps_if (pt_cmpR op_eq (pv 2) pe_int (nomark _)) (pss_one (ps_ret (pe_call F__law_pr_times (hr.mono (by decide)) rfl g__law_pr_times k__law_pr_times b__law_pr_times .nil pass0 (pa_cons (pe_call F__law_pick (hr.mono (by decide)) rfl g__law_pick k__law_pick b__law_pick .nil pass0 (pa_cons (pv 0) (pa_cons (pe_slice sl_list (pv 1) po_none (po_some pe_int)) pa_nil))) (pa_cons (pe_op op_add pe_int (pe_call F__law_roll (hr.mono (by decide)) rfl g__law_roll k__law_roll b__law_roll .nil pass0 (pa_cons (pv 0) (pa_cons pe_int pa_nil)))) pa_nil))))) pss_nil)
      (pss_cons (ps_if (pt_cmpR op_eq (pv 2) pe_int (nomark _)) (pss_one (ps_ret (pe_call F__law_pick (hr.mono (by decide)) rfl g__law_pick k__law_pick b__law_pick .nil pass0 (pa_cons (pv 0) (pa_cons (pe_lst (pa_cons pe_int (pa_cons pe_int (pa_cons pe_int (pa_cons pe_int (pa_cons pe_int (pa_cons pe_int (pa_cons pe_int (pa_cons pe_int (pa_cons pe_int (pa_cons pe_int (pa_cons pe_int (pa_cons pe_int pa_nil))))))))))))) pa_nil))))) pss_nil)
      (pss_cons (ps_if (pt_cmpR op_eq (pv 2) pe_int (nomark _)) (pss_one (ps_ret (pe_op op_mulU (pe_op op_mulU (pe_call F__law_pick (hr.mono (by decide)) rfl g__law_pick k__law_pick b__law_pick .nil pass0 (pa_cons (pv 0) (pa_cons (pv 1) pa_nil))) (pe_call F__law_pick (hr.mono (by decide)) rfl g__law_pick k__law_pick b__law_pick .nil pass0 (pa_cons (pv 0) (pa_cons (pv 1) pa_nil)))) (pe_call F__law_pick (hr.mono (by decide)) rfl g__law_pick k__law_pick b__law_pick .nil pass0 (pa_cons (pv 0) (pa_cons (pe_slice sl_list (pv 1) po_none (po_some pe_int)) pa_nil)))))) pss_nil)
      (pss_one (ps_ret (pe_call F__law_roll (hr.mono (by decide)) rfl g__law_roll k__law_roll b__law_roll .nil pass0 (pa_cons (pv 0) (pa_cons (pe_op op_add (pe_call F__law_pick (hr.mono (by decide)) rfl g__law_pick k__law_pick b__law_pick .nil pass0 (pa_cons (pv 0) (pa_cons (pe_lst (pa_cons (pe_op op_pow pe_int pe_int) (pa_cons (pe_op op_pow pe_int pe_int) (pa_cons (pe_op op_pow pe_int pe_int) (pa_cons (pe_op op_pow pe_int pe_int) (pa_cons (pe_op op_pow pe_int pe_int) pa_nil)))))) pa_nil))) pe_int) pa_nil))))))))))))
/-! ### _law_right -/
theorem sc__law_right : FnScope ["dice", "number", "claim", "paper", "here", "told", "one"] ["dice"] (defScope s__law_right) := ⟨rfl, rfl, rfl, by decide +kernel, rfl, by decide +kernel, by decide +kernel⟩
def sp__law_right (K : PySem.W.Frag) : Sp := fun vs H Q _ => ∃ d : Addr, vs = [.ref d] ∧ Dice H d ∧ ∀ H', Keep d H H' → Dice H' d → Q (.bl true) H'
theorem len__law_right {K : PySem.W.Frag} {vs : List V} {H : Hp} {Q : VK} {E : XK} (h : sp__law_right K vs H Q E) : vs.length = ["dice"].length := by
  obtain ⟨_, rfl, _⟩ := h
  rfl
def t__law_right_k1_b (K : PySem.W.Frag) : TS := (tSeq (tAsg (tCB (rMin2) (tCons (tVar 1) (tCons (tOp rPowU (tC (.int 10)) (tC (.int 6))) tNil))) (gName 4))
  (tSeq (tAsg (tCall (sp_next_prime K) [] E0 (tCons (tVar 4) tNil)) (gName 5))
  (tRet (tAndV (tOp rGtI (tVar 5) (tVar 4)) (tOp (rEqD K) (tLc (iRng2 (tCons (tOp rAdd (tVar 4) (tC (.int 1))) (tCons (tOp rAdd (tVar 5) (tC (.int 1))) tNil))) (gName 6) (tB (tCall (sp__law_pr_is K) [] E0 (tCons (tVar 6) tNil))) (tVar 6) [6]) (tLst (tCons (tVar 5) tNil)))))))
def t__law_right (K : PySem.W.Frag) : TS := (tSeq (tAsg (tCall (sp__law_pr_drawn K) [] E0 (tCons (tVar 0) tNil)) (gName 1))
  (tSeq (tIfS (tTest (tOp rNe (tCB (rReprU) (tCons (tCall (sp_is_prime K) [] E0 (tCons (tVar 1) tNil)) tNil)) (tCB (rReprU) (tCons (tCall (sp__law_pr_is K) [] E0 (tCons (tVar 1) tNil)) tNil)))) (tRet (tC (.bl false))) tNext)
  (tSeq (tIfS (tTest (tOp rGeI (tVar 1) (tC (.int 2)))) (tSeq (tAsg (tCall (sp_prime_answer K) [] E0 (tCons (tVar 1) tNil)) (gTup K 2 (gCons (gName 2) (gCons (gName 3) gNil))))
  (tSeq (tIfS (tTest (tOp (rNeD K) (tVar 2) (tTup (tCons (tIf (tB (tCall (sp__law_pr_is K) [] E0 (tCons (tVar 1) tNil))) (tC (.str "prime")) (tC (.str "split"))) (tCons (tVar 1) tNil))))) (tRet (tC (.bl false))) tNext)
  (tSeq (tIfS (tAnd (tTest (tOp rEq (tOp (rIxA K) (tVar 2) (tC (.int 0))) (tC (.str "prime")))) (tNot (tB (tCall (sp__law_pr_is_paper K) [] E0 (tCons (tVar 1) (tCons (tVar 3) tNil)))))) (tRet (tC (.bl false))) tNext)
  (tIfS (tAnd (tTest (tOp rEq (tOp (rIxA K) (tVar 2) (tC (.int 0))) (tC (.str "split")))) (tNot (tB (tCall (sp__law_is_split K) [] E0 (tCons (tVar 1) (tCons (tVar 3) tNil)))))) (tRet (tC (.bl false))) tNext)))) tNext)
  (t__law_right_k1_b K))))
theorem strOk_of (s : String) : PyData.strOk (PySem.Str.ofString s) = true := by
  have e : s.toByteArray.data.toList = s.toList.flatMap String.utf8EncodeChar := by
    have h : ∀ l : List Char, (String.ofList l).toByteArray.data.toList = l.flatMap String.utf8EncodeChar := by
      intro l
      simp [String.toByteArray_ofList, List.utf8Encode]
    have := h s.toList
    rwa [String.ofList_toList] at this
  unfold PyData.strOk PySem.Str.ofString
  rw [e, PySem.cpsOfBytes_chars]
  simp only [List.all_toArray, List.all_map, List.all_eq_true, Function.comp, decide_eq_true_eq]
  intro c _
  have := c.valid
  have h : c.val.toNat < 1114112 := by
    rcases this with h | ⟨_, h⟩ <;> omega
  exact h
def noDivB (n k : Nat) : Bool := (List.range k).all fun i => n % (i + 2) != 0
theorem prime_by {n k : Nat} (h1 : 1 < n) (h2 : n < (k + 2) * (k + 2)) (h : noDivB n k = true) : PrimeN n :=
  (prime_end h1 h2 fun j j1 j2 jd => by
    have c := List.all_eq_true.mp h (j - 2) (List.mem_range.mpr (by omega))
    rw [show j - 2 + 2 = j by omega, Nat.mod_eq_zero_of_dvd jd] at c
    simp at c).1
theorem million_prime : PrimeN 1000003 := prime_by (k := 1000) (by decide) (by decide) (by decide +kernel)
theorem bool_same {a b : Bool} {p : Prop} (h : a = true ↔ p) (h2 : b = true ↔ p) : a = b := by
  rw [Bool.eq_iff_iff, h, h2]
theorem ne_same {x : V} {H : Hp} {Q : VK} (h : scal x x = true) (h2 : Q (.bl false) H) : rNe x x H Q := ⟨h, by simpa using h2⟩
theorem eq_str {x y : PySem.Str} {H : Hp} {Q : VK} (h2 : Q (.bl (decide (x = y))) H) : rEq (.str x) (.str y) H Q := ⟨rfl, by
  have e : decide (V.str x = V.str y) = decide (x = y) := by simp
  rw [e]; exact h2⟩
theorem claim_ne {K : PySem.W.Frag} {H : Hp} {a b : Addr} {s : String} {n : Int} {Q : VK} (h : H a = some (.tup [.str (PySem.Str.ofString s), .int n])) (h2 : H b = some (.tup [.str (PySem.Str.ofString s), .int n])) (q : Q (.bl false) H) : rNeD K (.ref a) (.ref b) H Q := by
  have sh : SeqAt.shaped (.tuple [.str (PySem.Str.ofString s), .int n]) = true := by
    simp [SeqAt.shaped, PyData.canLay0, PyData.canLayAll0, PyData.depth, PyData.depthAll, strOk_of]
  refine ⟨.tuple [.str (PySem.Str.ofString s), .int n], .tuple [.str (PySem.Str.ofString s), .int n], .tup (sqT_of h) (.cons (.str _) (.cons (.int _) .nil)), .tup (sqT_of h2) (.cons (.str _) (.cons (.int _) .nil)), sh, sh, ?_⟩
  have e : (PyData.eqv (.tuple [.str (PySem.Str.ofString s), .int n]) (.tuple [.str (PySem.Str.ofString s), .int n])) = true := by
    simp [PyData.eqv, PyData.eqvAll]
  rw [e]
  exact q
theorem one_eq {K : PySem.W.Frag} {H : Hp} {a b : Addr} {n : Int} {Q : VK} (h : H a = some (.lst [.int n])) (h2 : H b = some (.lst [.int n])) (q : Q (.bl true) H) : rEqD K (.ref a) (.ref b) H Q := by
  refine ⟨.list [.int n], .list [.int n], .lst (sqL_of h) (.cons (.int _) .nil), .lst (sqL_of h2) (.cons (.int _) .nil), rfl, rfl, ?_⟩
  have e : (PyData.eqv (.list [.int n]) (.list [.int n])) = true := by simp [PyData.eqv, PyData.eqvAll]
  rw [e]
  exact q
theorem outL_last (v : V) (k : Nat) : outL (fun i => if i = k then some v else none) (k + 1) = [v] := by
  rw [outL_succ]
  have : outL (fun i => if i = k then some v else none) k = [] := by
    unfold outL
    rw [List.filterMap_eq_nil_iff]
    intro i hi
    have := List.mem_range.mp hi
    rw [if_neg (by omega)]
  rw [this]
  simp
theorem paired_mapR {α β γ : Type} {F : α → β → Prop} {G : α → γ → Prop} {g : β → γ} : ∀ {xs : List α} {rs : List β}, Paired F xs rs → (∀ a b, F a b → G a (g b)) → Paired G xs (rs.map g)
  | _, _, .nil, _ => .nil
  | _, _, .cons f t, h => .cons (h _ _ f) (paired_mapR t h)
theorem small_pp {p : Nat} (h2 : 2 ≤ p) (h8 : p ≤ 10 ^ 8) : SmallP (ppN (p - 1)) := by
  have g := ppN_good (show 1 ≤ p - 1 by omega)
  refine ⟨fun q hq => ?_, by rw [g.prod]; omega, ?_⟩
  · have pq := g.pr q hq
    have q2 := pq.1.1
    have hle := g.le (by omega) hq
    refine ⟨q2, by omega, pq.2, ?_⟩
    have h1 := Nat.pow_le_pow_left q2 q.2
    refine Nat.le_of_not_lt fun c => ?_
    have h3 := Nat.pow_le_pow_right (show 0 < 2 by decide) (show 27 ≤ q.2 by omega)
    have := hle.1
    omega
  · have := len_le g.pr
    rw [g.prod] at this
    refine Nat.lt_of_not_le fun c => ?_
    have h20 := Nat.pow_le_pow_right (show 0 < 2 by decide) (show 27 ≤ (ppN (p - 1)).length by omega)
    omega
theorem lastN_mem (l : List (Nat × Nat)) : lastN l = 0 ∨ ∃ x ∈ l, lastN l = x.1 := by
  rcases List.eq_nil_or_concat l with rfl | ⟨r, x, rfl⟩
  · exact .inl rfl
  · refine .inr ⟨x, by simp, ?_⟩
    simp [lastN]
theorem asc_lt {α : Type} {f : α → Nat} {l : List α} (h : l.Pairwise fun a b => f a < f b) {i j : Nat} {x y : α} (hi : l[i]? = some x) (hj : l[j]? = some y) (hij : i < j) : f x < f y := by
  obtain ⟨h1, rfl⟩ := List.getElem?_eq_some_iff.mp hi
  obtain ⟨h2, rfl⟩ := List.getElem?_eq_some_iff.mp hj
  exact List.pairwise_iff_getElem.mp h i j h1 h2 hij
theorem mem_take {α : Type} {l : List α} {i : Nat} {x : α} (h : x ∈ l.take i) : ∃ j, j < i ∧ l[j]? = some x := by
  obtain ⟨j, hj, e⟩ := List.getElem_of_mem h
  rw [List.length_take] at hj
  rw [List.getElem_take] at e
  exact ⟨j, by omega, by rw [← e]; exact List.getElem?_eq_getElem (by omega)⟩
theorem take_mem {α : Type} {l : List α} {i j : Nat} {x : α} (h : l[j]? = some x) (hij : j < i) : x ∈ l.take i := by
  obtain ⟨h1, rfl⟩ := List.getElem?_eq_some_iff.mp h
  exact List.mem_take_iff_getElem.mpr ⟨j, by omega, rfl⟩
theorem row_good {H : Hp} {n : Nat} {xs : List V} {rs : List (Nat × Nat)} (P : PaperOk H n xs rs) {i : Nat} {r : Nat × Nat} (hi : rs[i]? = some r) : RowGood (2 :: (rs.take i).map (·.1)) r.1 r.2 (ppN (r.1 - 1)) := by
  obtain ⟨R, hrn⟩ := P.ok r (List.mem_of_getElem? hi)
  have p2 := R.pr.1
  have hodd := R.odd
  have g := ppN_good (show 1 ≤ r.1 - 1 by omega)
  refine ⟨?_, ⟨R.g1, R.gp⟩, fun j q hj => ⟨?_, ?_, ?_⟩, g.prod, ?_⟩
  · refine ⟨_, List.getLast?_eq_some_getLast (by simp), ?_⟩
    have hm := List.getLast_mem (l := 2 :: (rs.take i).map (·.1)) (by simp)
    rcases List.mem_cons.mp hm with e | hm
    · omega
    · obtain ⟨x, hx, e⟩ := List.mem_map.mp hm
      obtain ⟨k, hk, ek⟩ := mem_take hx
      have := asc_lt (f := (·.1)) P.asc ek hi hk
      omega
  · rcases lastN_mem ((ppN (r.1 - 1)).take j) with e | ⟨x, hx, e⟩
    · have := (g.pr q (List.mem_of_getElem? hj)).1.1
      omega
    · obtain ⟨k, hk, ek⟩ := mem_take hx
      have := asc_lt (f := (·.1)) g.asc ek hj hk
      omega
  · have hq := List.mem_of_getElem? hj
    rcases P.closed r (List.mem_of_getElem? hi) q hq with e | ⟨x, hx, e⟩
    · rw [e]; exact List.mem_cons_self
    · refine List.mem_cons_of_mem _ (List.mem_map.mpr ⟨x, ?_, e⟩)
      obtain ⟨k, hk, ek⟩ := List.getElem_of_mem hx
      have ek2 : rs[k]? = some x := by rw [← ek]; exact List.getElem?_eq_getElem hk
      have hlt : x.1 < r.1 := by
        have := (g.le (by omega) hq).2.1
        omega
      refine take_mem ek2 (Nat.lt_of_not_le fun c => ?_)
      rcases Nat.lt_or_eq_of_le c with c | c
      · have := asc_lt (f := (·.1)) P.asc hi ek2 c
        omega
      · subst c
        rw [hi] at ek2
        cases ek2
        omega
  · have hq := List.mem_of_getElem? hj
    have h := R.mko q hq
    have hd : (((r.1 : Nat) : Int) - 1) / (q.1 : Int) = (((r.1 - 1) / q.1 : Nat) : Int) := by
      rw [show (((r.1 : Nat) : Int) - 1) = ((r.1 - 1 : Nat) : Int) by omega, ← Int.natCast_ediv]
    rw [hd, Int.toNat_natCast] at h
    exact h
  · have hnd : ¬ ((r.1 : Nat) : Int) ∣ ((r.2 : Nat) : Int) := fun hd => by
      have := Int.le_of_dvd (by have := R.g1; omega) hd
      have := R.gp
      omega
    have := fermat R.pr hnd
    rw [this]
    exact Int.emod_eq_of_lt (by decide) (by omega)
theorem paper_good {H : Hp} {n : Nat} {xs : List V} {rs : List (Nat × Nat)} (P : PaperOk H n xs rs) : PaperGood n (rs.map fun r => (r, ppN (r.1 - 1))) := by
  refine ⟨⟨fun h => ?_, fun h => by rw [P.two h]; rfl⟩, fun i r hi => ?_, ?_⟩
  · refine Classical.byContradiction fun c => ?_
    obtain ⟨r, hr, _⟩ := P.top c
    rw [List.map_eq_nil_iff] at h
    rw [h] at hr
    cases hr
  · rw [List.getElem?_map] at hi
    cases e : rs[i]? with
    | none => rw [e] at hi; cases hi
    | some r0 =>
      rw [e] at hi
      simp only [Option.map_some, Option.some.injEq] at hi
      subst hi
      have := row_good P e
      rw [← List.map_take, List.map_map]
      exact this
  · rw [List.map_map]
    by_cases c : n = 2
    · rw [P.two c, c]; rfl
    · obtain ⟨r, hr, e⟩ := P.top c
      obtain ⟨l, x, rfl⟩ : ∃ l x, rs = l ++ [x] := by
        rcases List.eq_nil_or_concat rs with h | ⟨l, x, h⟩
        · rw [h] at hr; cases hr
        · exact ⟨l, x, by rw [h, List.concat_eq_append]⟩
      have hx := (P.ok x (by simp)).2
      have hn : n ≤ x.1 := by
        rcases List.mem_append.mp hr with h | h
        · have := (List.pairwise_append.mp P.asc).2.2 r h x (by simp)
          omega
        · rw [List.mem_singleton] at h
          rw [← h]; omega
      have : x.1 = n := by omega
      rw [List.map_append, List.map_singleton, ← List.cons_append, List.getLast?_append]
      simp [this]
theorem pure__law_right (K : PySem.W.Frag) (vs : List V) (H : Hp) (Q : VK) (E : XK) (h : sp__law_right K vs H Q E) : t__law_right K { nx := fun _ H' => Q .non H', rt := Q } (start ["dice", "number", "claim", "paper", "here", "told", "one"] vs) H := by
  obtain ⟨d, rfl, hD, hq⟩ := h
  unfold t__law_right
  walk_at "z"
  refine ⟨d, rfl, hD, fun n H1 hn k1 d1 => ?_⟩
  have key : ∀ H' o2 o3, Keep d H H' → Dice H' d → t__law_right_k1_b K { nx := fun _ H' => Q V.non H', rt := Q } [some (.ref d), some (.int (n : Int)), o2, o3, none, none, none] H' := by
    intro H' o2 o3 kk dd
    unfold t__law_right_k1_b
    walk_at "z"
    have hm : ∃ m : Nat, (if (10 : Int) ^ (6 : Int).toNat < (n : Int) then (10 : Int) ^ (6 : Int).toNat else (n : Int)) = (m : Int) ∧ m ≤ 10 ^ 6 := by
      have e6 : (10 : Int) ^ (6 : Int).toNat = 1000000 := rfl
      rw [e6]
      by_cases c : (1000000 : Int) < (n : Int)
      · exact ⟨1000000, by rw [if_pos c]; rfl, by decide⟩
      · exact ⟨n, by rw [if_neg c], by omega⟩
    obtain ⟨m, em, hm6⟩ := hm
    rw [em]
    refine ⟨cpow (by decide), m, 1000003, rfl, by omega, by omega, by decide, primeI_of million_prime, fun p hp1 hp2 hpp hpl => ?_⟩
    walk_at "z"
    rw [if_pos (by omega)]
    have iff : ∀ i : Nat, i < p - m → ∀ b : Bool, (b = true ↔ PrimeN (m + 1 + i)) → b = decide (i = p - (m + 1)) := fun i hi b hb => by
      rw [Bool.eq_iff_iff, hb, decide_eq_true_eq]
      constructor
      · intro h
        refine Classical.byContradiction fun c => ?_
        exact hpl (m + 1 + i) (by omega) (by omega) (primeI_of h)
      · intro h
        have : m + 1 + i = p := by omega
        rw [this]
        exact primeN_of hpp
    refine ⟨_, _, rfl, ⟨by omega, by omega, by omega, by omega⟩, comp_R (fun i => if i = p - (m + 1) then some (.int (p : Int)) else none) (by omega) (fun i Hc hi sc Qo hQo => ?_) (fun D H2 s2 hD2 => ?_)⟩
    · walk_at "z"
      have hi2 : i < p - m := by omega
      refine ⟨m + 1 + i, by push_cast; rfl, by omega, fun b hb => ?_⟩
      walk_at "z"
      have := hQo Hc (Same.refl _)
      rw [iff i hi2 b hb]
      by_cases c : i = p - (m + 1)
      · rw [if_pos c] at this
        rw [if_pos (decide_eq_true c)]
        have e : (m : Int) + 1 + (i : Int) = (p : Int) := by omega
        rw [e]
        exact this
      · rw [if_neg c] at this
        rw [if_neg (by rw [decide_eq_false c]; decide)]
        exact this
    · have en : ((p : Int) + 1 - ((m : Int) + 1)).toNat = (p - (m + 1)) + 1 := by omega
      rw [en, outL_last] at hD2
      walk_at "z"
      refine ⟨by decide, fun R hR => ?_⟩
      have sR := same_upd (o := .lst [V.int (p : Int)]) hR
      refine one_eq (sR _ _ hD2) upd_same ?_
      exact hq _ (kk.same (s2.trans sR)) (dd.same (s2.trans sR))
  walk_at "z"
  refine ⟨n, rfl, by omega, by omega, fun b hb => ?_⟩
  walk_at "z"
  refine .inr (.inl ⟨b, rfl, ?_⟩)
  walk_at "z"
  refine ⟨n, rfl, by omega, fun b2 hb2 => ?_⟩
  refine .inr (.inl ⟨b2, rfl, ?_⟩)
  have hbn : b = true ↔ PrimeN n := hb.trans ⟨primeN_of, primeI_of⟩
  rw [bool_same hbn hb2]
  refine ne_same rfl ?_
  walk_at "z"
  by_cases h2 : (2 : Int) ≤ (n : Int)
  rotate_left
  · rw [if_neg h2]
    exact key H1 _ _ k1 d1
  rw [if_pos h2]
  refine ⟨n, rfl, by omega, hn, fun hp A C T xs rs H2 s2 hA hC hT hP => ?_, fun hnp A C T q r H2 s2 q2 r2 hqr hl hA hC hT => ?_⟩
  · walk_at "z"
    refine ⟨_, sqT_of hA, rfl, ?_⟩
    walk_at "z"
    refine ⟨n, rfl, by omega, fun b3 hb3 => ?_⟩
    rw [hb3.mpr hp]
    walk_at "z"
    refine ⟨by decide, fun t ht => ?_⟩
    have st := same_upd (o := .tup [V.str (PySem.Str.ofString "prime"), V.int (n : Int)]) ht
    refine claim_ne (st _ _ hC) upd_same ?_
    walk_at "z"
    refine ixT (sqT_of (st _ _ hC)) (v := .str (PySem.Str.ofString "prime")) rfl ?_
    refine eq_str ?_
    walk_at "z"
    refine ⟨n, T, xs, rs.map fun r => (r, ppN (r.1 - 1)), rfl, st _ _ hT, ?_, by rw [List.length_map]; have := hP.len; omega, fun r hr => ?_, fun b4 H3 hb4 s3 => ?_⟩
    · exact paired_mapR hP.vs fun v r h => RowP.same h st
    · obtain ⟨r0, hr0, rfl⟩ := List.mem_map.mp hr
      have R := (hP.ok r0 hr0)
      exact ⟨R.1.pr.1, (show r0.1 < 2 ^ 40 by omega), small_pp R.1.pr.1 (by omega)⟩
    · rw [hb4.mpr (paper_good hP)]
      walk_at "z"
      refine ixT (sqT_of (s3 _ _ (st _ _ hC))) (v := .str (PySem.Str.ofString "prime")) rfl ?_
      refine eq_str ?_
      rw [decide_eq_false (by decide +kernel)]
      walk_at "z"
      exact key _ _ _ ((k1.same s2).same (st.trans s3)) ((d1.same s2).same (st.trans s3))
  · walk_at "z"
    refine ⟨_, sqT_of hA, rfl, ?_⟩
    walk_at "z"
    refine ⟨n, rfl, by omega, fun b3 hb3 => ?_⟩
    have : b3 = false := Bool.eq_false_iff.mpr fun c => hnp (hb3.mp c)
    rw [this]
    walk_at "z"
    refine ⟨by decide, fun t ht => ?_⟩
    have st := same_upd (o := .tup [V.str (PySem.Str.ofString "split"), V.int (n : Int)]) ht
    refine claim_ne (st _ _ hC) upd_same ?_
    walk_at "z"
    refine ixT (sqT_of (st _ _ hC)) (v := .str (PySem.Str.ofString "split")) rfl ?_
    refine eq_str ?_
    rw [decide_eq_false (by decide +kernel)]
    walk_at "z"
    refine ixT (sqT_of (st _ _ hC)) (v := .str (PySem.Str.ofString "split")) rfl ?_
    refine eq_str ?_
    walk_at "z"
    have hqn : q ≤ n := by rw [← hqr]; exact Nat.le_mul_of_pos_right _ (by omega)
    refine ⟨(n, q, r, T), rfl, st _ _ hT, q2, r2, by show q < 2 ^ 40; omega, hqr, fun H3 s3 => ?_⟩
    walk_at "z"
    exact key _ _ _ ((k1.same s2).same (st.trans s3)) ((d1.same s2).same (st.trans s3))
theorem ok__law_right {P : Program} {w : World} {K : PySem.W.Frag} {mg : Str → Option Value} {base : Heap} (T : Tx K mg) : Okk P w K mg base 5 "_law_right" ["dice"] (sp__law_right K) := by
  obtain ⟨fd_is_prime, F_is_prime, b_is_prime, g_is_prime, k_is_prime⟩ := ok_is_prime (P := P) (w := w) (base := base) T
  obtain ⟨fd_next_prime, F_next_prime, b_next_prime, g_next_prime, k_next_prime⟩ := ok_next_prime (P := P) (w := w) (base := base) T
  obtain ⟨fd_prime_answer, F_prime_answer, b_prime_answer, g_prime_answer, k_prime_answer⟩ := ok_prime_answer (P := P) (w := w) (base := base) T
  obtain ⟨fd__law_pr_is, F__law_pr_is, b__law_pr_is, g__law_pr_is, k__law_pr_is⟩ := ok__law_pr_is (P := P) (w := w) (base := base) T
  obtain ⟨fd__law_pr_is_paper, F__law_pr_is_paper, b__law_pr_is_paper, g__law_pr_is_paper, k__law_pr_is_paper⟩ := ok__law_pr_is_paper (P := P) (w := w) (base := base) T
  obtain ⟨fd__law_pr_drawn, F__law_pr_drawn, b__law_pr_drawn, g__law_pr_drawn, k__law_pr_drawn⟩ := ok__law_pr_drawn (P := P) (w := w) (base := base) T
  obtain ⟨fd__law_is_split, F__law_is_split, b__law_is_split, g__law_is_split, k__law_is_split⟩ := ok__law_is_split (P := P) (w := w) (base := base) T
  have hf_min := T.n_min
  have hf_range := T.n_range
  have hf_repr := T.n_repr
  obtain ⟨fd, F⟩ := T.f__law_right
  refine ⟨fd, F.ok sc__law_right (fun vs H Q E h => len__law_right h) (fun cdv A outer s H vs Q E hr h => ⟨t__law_right K, PSs.nox ?_, pure__law_right K vs H Q E h⟩), F.bindsN (fun _ _ _ _ _ _ us hl => match us, hl with | [_], _ => rfl), T.g__law_right, F.kp⟩
  have hu64 := hu64_of hr
  exact (pss_cons (ps_set (i := 1) sc__law_right.nd rfl (by first | exact Or.inl rfl | exact Or.inr rfl) (pe_call F__law_pr_drawn (hr.mono (by decide)) rfl g__law_pr_drawn k__law_pr_drawn b__law_pr_drawn .nil pass0 (pa_cons (pv 0) pa_nil)))
      (pss_cons (ps_if (pt_cmpR op_ne (pe_callB cr_reprU (by rfl) hf_repr (by decide +kernel) (pa_cons (pe_call F_is_prime (hr.mono (by decide)) rfl g_is_prime k_is_prime b_is_prime .nil pass0 (pa_cons (pv 1) pa_nil)) pa_nil)) (pe_callB cr_reprU (by rfl) hf_repr (by decide +kernel) (pa_cons (pe_call F__law_pr_is (hr.mono (by decide)) rfl g__law_pr_is k__law_pr_is b__law_pr_is .nil pass0 (pa_cons (pv 1) pa_nil)) pa_nil)) (nomark _)) (pss_one (ps_ret pe_bl)) pss_nil)
      (pss_cons (ps_if (pt_cmpR op_ge (pv 1) pe_int (nomark _)) (pss_cons (ps_asg (pe_call F_prime_answer (hr.mono (by decide)) rfl g_prime_answer k_prime_answer b_prime_answer .nil pass0 (pa_cons (pv 1) pa_nil)) (pg_tup rfl (pgs_cons (pg_name (i := 2) sc__law_right.nd rfl (by first | exact Or.inl rfl | exact Or.inr rfl)) (pgs_cons (pg_name (i := 3) sc__law_right.nd rfl (by first | exact Or.inl rfl | exact Or.inr rfl)) pgs_nil))))
      (pss_cons (ps_if (pt_cmpR (op_neD hu64) (pv 2) (pe_tup (pa_cons (pe_ifExp (pt_val (pe_call F__law_pr_is (hr.mono (by decide)) rfl g__law_pr_is k__law_pr_is b__law_pr_is .nil pass0 (pa_cons (pv 1) pa_nil))) pe_str pe_str) (pa_cons (pv 1) pa_nil))) (nomark _)) (pss_one (ps_ret pe_bl)) pss_nil)
      (pss_cons (ps_if (PW.pt (pw_and (pt_cmpR op_eq (pe_ix ix_lt (pv 2) pe_int (fun _ _ => rfl)) pe_str (nomark _)) (pw_and1 (pt_not (pt_val (pe_call F__law_pr_is_paper (hr.mono (by decide)) rfl g__law_pr_is_paper k__law_pr_is_paper b__law_pr_is_paper .nil pass0 (pa_cons (pv 1) (pa_cons (pv 3) pa_nil)))))))) (pss_one (ps_ret pe_bl)) pss_nil)
      (pss_one (ps_if (PW.pt (pw_and (pt_cmpR op_eq (pe_ix ix_lt (pv 2) pe_int (fun _ _ => rfl)) pe_str (nomark _)) (pw_and1 (pt_not (pt_val (pe_call F__law_is_split (hr.mono (by decide)) rfl g__law_is_split k__law_is_split b__law_is_split .nil pass0 (pa_cons (pv 1) (pa_cons (pv 3) pa_nil)))))))) (pss_one (ps_ret pe_bl)) pss_nil))))) pss_nil)
      (pss_cons (ps_set (i := 4) sc__law_right.nd rfl (by first | exact Or.inl rfl | exact Or.inr rfl) (pe_callB (call_min2 rfl) (by rfl) hf_min (by decide +kernel) (pa_cons (pv 1) (pa_cons (pe_op op_pow pe_int pe_int) pa_nil))))
      (pss_cons (ps_set (i := 5) sc__law_right.nd rfl (by first | exact Or.inl rfl | exact Or.inr rfl) (pe_call F_next_prime (hr.mono (by decide)) rfl g_next_prime k_next_prime b_next_prime .nil pass0 (pa_cons (pv 4) pa_nil)))
      (pss_one (ps_ret (pe_and (pe_cmpR op_gt (pv 5) (pv 4) (nomark _)) (pe_one (pe_cmpR (op_eqD hu64) (pe_lc (own := [("one", 6)]) (g := (gName 6)) (tt := (tB (tCall (sp__law_pr_is K) [] E0 (tCons (tVar 6) tNil)))) rfl sc__law_right.nd (pi_range2 rfl hf_range (pa_cons (pe_op op_add (pv 4) pe_int) (pa_cons (pe_op op_add (pv 5) pe_int) pa_nil))) (blkOk_by (own := [("one", 6)]) (N := ["dice", "number", "claim", "paper", "here", "told", "one"]) (sc := defScope s__law_right) (by decide +kernel)) (fun _ _ _ _ _ => (pg_name (i := 6) sc__law_right.nd rfl (by first | exact Or.inl rfl | exact Or.inr rfl))) (fun _ _ _ _ _ => (pts_one (pt_val (pe_call F__law_pr_is (hr.mono (by decide)) rfl g__law_pr_is k__law_pr_is b__law_pr_is .nil pass0 (pa_cons (pv 6) pa_nil))))) (fun _ _ _ _ _ => (pv 6))) (pe_lst (pa_cons (pv 5) pa_nil)) (nomark _)))))))))))
/-! ### law -/
theorem sc_law : FnScope ["script", "spot", "dice", "turn", "told", "one"] ["script"] (defScope s_law) := ⟨rfl, rfl, rfl, by decide +kernel, rfl, by decide +kernel, by decide +kernel⟩
def sp_law (K : PySem.W.Frag) : Sp := fun vs H Q _ => ∃ (a : Addr) (ns : List Int), vs = [.ref a] ∧ SqL K H a (ns.map V.int) ∧ ns.length ≤ 63 ∧ ∀ H', Q (.bl true) H'
theorem len_law {K : PySem.W.Frag} {vs : List V} {H : Hp} {Q : VK} {E : XK} (h : sp_law K vs H Q E) : vs.length = ["script"].length := by
  obtain ⟨_, _, rfl, _⟩ := h
  rfl
def t_law_f1_b (K : PySem.W.Frag) : TS := (tIfS (tNot (tB (tCall (sp__law_right K) [] E0 (tCons (tVar 2) tNil)))) (tRet (tC (.bl false))) tNext)
def t_law_f2_b (K : PySem.W.Frag) : TS := (tSeq (tAsg (tCall (sp__law_dice K) [] E0 (tCons (tVar 0) (tCons (tVar 1) tNil))) (gName 2))
  (tFor (iRng1 (tCons (tC (.int 4)) tNil)) (gName 3) (t_law_f1_b K)))
def t_law_k3_b (K : PySem.W.Frag) : TS := (tSeq (tIfS (tOr (tNot (tB (tCall (sp__law_pr_is_paper K) [] E0 (tCons (tC (.int 7)) (tCons (tTup (tCons (tTup (tCons (tC (.int 3)) (tCons (tC (.int 2)) (tCons (tTup (tCons (tTup (tCons (tC (.int 2)) (tCons (tC (.int 1)) tNil))) tNil)) tNil)))) (tCons (tTup (tCons (tC (.int 7)) (tCons (tC (.int 3)) (tCons (tTup (tCons (tTup (tCons (tC (.int 2)) (tCons (tC (.int 1)) tNil))) (tCons (tTup (tCons (tC (.int 3)) (tCons (tC (.int 1)) tNil))) tNil))) tNil)))) tNil))) tNil))))) (tB (tCall (sp__law_pr_is_paper K) [] E0 (tCons (tC (.int 7)) (tCons (tTup (tCons (tTup (tCons (tC (.int 7)) (tCons (tC (.int 3)) (tCons (tTup (tCons (tTup (tCons (tC (.int 2)) (tCons (tC (.int 1)) tNil))) (tCons (tTup (tCons (tC (.int 3)) (tCons (tC (.int 1)) tNil))) tNil))) tNil)))) tNil)) tNil))))) (tRet (tC (.bl false))) tNext)
  (tRet (tAndV (tOp (rEqD K) (tLc (iTup K (tTup (tCons (tC (.int 0)) (tCons (tC (.int 1)) (tCons (tC (.int 2)) (tCons (tC (.int 97)) (tCons (tC (.int 341)) tNil))))))) (gName 5) tYes (tCall (sp_is_prime K) [] E0 (tCons (tVar 5) tNil)) [5]) (tLst (tCons (tC (.bl false)) (tCons (tC (.bl false)) (tCons (tC (.bl true)) (tCons (tC (.bl true)) (tCons (tC (.bl false)) tNil))))))) (tOp rEq (tCall (sp_next_prime K) [] E0 (tCons (tOp rPowU (tC (.int 10)) (tC (.int 8))) tNil)) (tC (.int 100000007))))))
def t_law_k4_b (K : PySem.W.Frag) : TS := (tSeq (tIfS (tTest (tOp (rNeD K) (tVar 4) (tLst (tCons (tTup (tCons (tC (.str "prime")) (tCons (tC (.int 7)) tNil))) (tCons (tTup (tCons (tTup (tCons (tC (.str "prime")) (tCons (tC (.int 2)) tNil))) (tCons (tTup tNil) tNil))) (tCons (tTup (tCons (tC (.str "split")) (tCons (tC (.int 91)) tNil))) (tCons (tTup (tCons (tTup (tCons (tC (.str "split")) (tCons (tC (.int 4)) tNil))) (tCons (tTup (tCons (tC (.int 2)) (tCons (tC (.int 2)) tNil))) tNil))) (tCons (tC (.int 97)) (tCons (tC (.int 2)) tNil))))))))) (tRet (tC (.bl false))) tNext)
  (t_law_k3_b K))
def t_law_k5_b (K : PySem.W.Frag) : TS := (tSeq (tAsg (tLst (tCons (tOp (rIxA K) (tCall (sp_prime_answer K) [] E0 (tCons (tC (.int 7)) tNil)) (tC (.int 0))) (tCons (tCall (sp_prime_answer K) [] E0 (tCons (tC (.int 2)) tNil)) (tCons (tOp (rIxA K) (tCall (sp_prime_answer K) [] E0 (tCons (tC (.int 91)) tNil)) (tC (.int 0))) (tCons (tCall (sp_prime_answer K) [] E0 (tCons (tC (.int 4)) tNil)) (tCons (tCall (sp_next_prime K) [] E0 (tCons (tC (.int 89)) tNil)) (tCons (tCall (sp_next_prime K) [] E0 (tCons (tC (.int 0)) tNil)) tNil))))))) (gName 4))
  (t_law_k4_b K))
def t_law (K : PySem.W.Frag) : TS := (tSeq (tFor (iRng1 (tCons (tCB (rMax2) (tCons (tC (.int 1)) (tCons (tCB (rMin2) (tCons (tC (.int 3)) (tCons (tCB (rLenU K) (tCons (tVar 0) tNil)) tNil))) tNil))) tNil)) (gName 1) (t_law_f2_b K))
  (t_law_k5_b K))
/-- the six answers told at the end of the law -/
def TD (H : Hp) (p : Addr) : Prop := ∃ C7 A2 C2 T2 C91 A4 C4 T4 : Addr, H p = some (.lst [.ref C7, .ref A2, .ref C91, .ref A4, .int 97, .int 2]) ∧ H C7 = some (.tup [.str (PySem.Str.ofString "prime"), .int 7]) ∧ H A2 = some (.tup [.ref C2, .ref T2]) ∧ H C2 = some (.tup [.str (PySem.Str.ofString "prime"), .int 2]) ∧ H T2 = some (.tup []) ∧ H C91 = some (.tup [.str (PySem.Str.ofString "split"), .int 91]) ∧ H A4 = some (.tup [.ref C4, .ref T4]) ∧ H C4 = some (.tup [.str (PySem.Str.ofString "split"), .int 4]) ∧ H T4 = some (.tup [.int 2, .int 2])
theorem TD.same {H H' : Hp} {p : Addr} (h : TD H p) (s : Same H H') : TD H' p := by
  obtain ⟨a, b, c, d, e, f, g, k, h1, h2, h3, h4, h5, h6, h7, h8, h9⟩ := h
  exact ⟨a, b, c, d, e, f, g, k, s _ _ h1, s _ _ h2, s _ _ h3, s _ _ h4, s _ _ h5, s _ _ h6, s _ _ h7, s _ _ h8, s _ _ h9⟩
def dsT : List PyData := [.tuple [.str (PySem.Str.ofString "prime"), .int 7], .tuple [.tuple [.str (PySem.Str.ofString "prime"), .int 2], .tuple []], .tuple [.str (PySem.Str.ofString "split"), .int 91], .tuple [.tuple [.str (PySem.Str.ofString "split"), .int 4], .tuple [.int 2, .int 2]], .int 97, .int 2]
theorem TD.dp {K : PySem.W.Frag} {H : Hp} {p : Addr} (h : TD H p) : Dp K H (.ref p) (.list dsT) := by
  obtain ⟨a, b, c, d, e, f, g, k, h1, h2, h3, h4, h5, h6, h7, h8, h9⟩ := h
  exact .lst (sqL_of h1) (.cons (.tup (sqT_of h2) (.cons (.str _) (.cons (.int _) .nil))) (.cons (.tup (sqT_of h3) (.cons (.tup (sqT_of h4) (.cons (.str _) (.cons (.int _) .nil))) (.cons (.tup (sqT_of h5) .nil) .nil))) (.cons (.tup (sqT_of h6) (.cons (.str _) (.cons (.int _) .nil))) (.cons (.tup (sqT_of h7) (.cons (.tup (sqT_of h8) (.cons (.str _) (.cons (.int _) .nil))) (.cons (.tup (sqT_of h9) (.cons (.int _) (.cons (.int _) .nil))) .nil))) (.cons (.int _) (.cons (.int _) .nil))))))
theorem dsT_ok : SeqAt.shaped (.list dsT) = true ∧ PyData.eqv (.list dsT) (.list dsT) = true := by
  constructor
  · simp [dsT, SeqAt.shaped, PyData.canLay0, PyData.canLayAll0, PyData.depth, PyData.depthAll, strOk_of]
  · simp [dsT, PyData.eqv, PyData.eqvAll]
theorem bl5 {K : PySem.W.Frag} {H : Hp} (b1 b2 b3 b4 b5 : Bool) : DpAll K H [.bl b1, .bl b2, .bl b3, .bl b4, .bl b5] [.bool b1, .bool b2, .bool b3, .bool b4, .bool b5] :=
  .cons (.bl _) (.cons (.bl _) (.cons (.bl _) (.cons (.bl _) (.cons (.bl _) .nil))))
theorem notp {n : Nat} (k : Nat) (h : n % k = 0) (h2 : 2 ≤ k) (h3 : k < n) : ¬ PrimeN n := fun p => p.2 k h2 h3 (Nat.dvd_of_mod_eq_zero h)
theorem great_prime : PrimeN 100000007 := prime_by (k := 9999) (by decide) (by decide) (by decide +kernel)
theorem p97 : PrimeN 97 := prime_by (k := 8) (by decide) (by decide) (by decide)
theorem p7 : PrimeN 7 := prime_by (k := 1) (by decide) (by decide) (by decide)
theorem p2 : PrimeN 2 := ⟨by decide, fun k a b => by omega⟩
def rows7 : List RowT := [((3, 2), [(2, 1)]), ((7, 3), [(2, 1), (3, 1)])]
theorem good7 : PaperGood 7 rows7 := by
  refine ⟨by simp [rows7], fun i r hi => ?_, rfl⟩
  match i, hi with
  | 0, hi =>
    simp only [rows7, List.getElem?_cons_zero, Option.some.injEq] at hi
    subst hi
    refine ⟨⟨2, rfl, by decide⟩, ⟨by decide, by decide⟩, fun j q hj => ?_, by decide, by decide⟩
    match j, hj with
    | 0, hj => simp only [List.getElem?_cons_zero, Option.some.injEq] at hj; subst hj; exact ⟨by decide, by decide, by decide⟩
    | j + 1, hj => simp at hj
  | 1, hi =>
    simp only [rows7, List.getElem?_cons_succ, List.getElem?_cons_zero, Option.some.injEq] at hi
    subst hi
    refine ⟨⟨3, rfl, by decide⟩, ⟨by decide, by decide⟩, fun j q hj => ?_, by decide, by decide⟩
    match j, hj with
    | 0, hj => simp only [List.getElem?_cons_zero, Option.some.injEq] at hj; subst hj; exact ⟨by decide, by decide, by decide⟩
    | 1, hj => simp only [List.getElem?_cons_succ, List.getElem?_cons_zero, Option.some.injEq] at hj; subst hj; exact ⟨by decide, by decide, by decide⟩
    | j + 2, hj => simp at hj
  | i + 2, hi => simp [rows7] at hi
def rows7b : List RowT := [((7, 3), [(2, 1), (3, 1)])]
theorem bad7 : ¬ PaperGood 7 rows7b := fun g => by
  have h := (g.2.1 0 _ rfl).2.2.1 1 (3, 1) rfl
  have := h.2.1
  simp at this
theorem small21 : SmallP [(2, 1)] := ⟨by decide, by decide, by decide⟩
theorem small2131 : SmallP [(2, 1), (3, 1)] := ⟨by decide, by decide, by decide⟩
theorem pure_law (K : PySem.W.Frag) (vs : List V) (H : Hp) (Q : VK) (E : XK) (h : sp_law K vs H Q E) : t_law K { nx := fun _ H' => Q .non H', rt := Q } (start ["script", "spot", "dice", "turn", "told", "one"] vs) H := by
  obtain ⟨a, ns, rfl, hS, hl, hq⟩ := h
  have key1 : ∀ H' o1 o2 o3 o4, t_law_k3_b K { nx := fun _ H' => Q V.non H', rt := Q } [some (.ref a), o1, o2, o3, o4, none] H' := by
    intro H' o1 o2 o3 o4
    unfold t_law_k3_b
    walk_at "z"
    refine ⟨by decide, fun a0 g0 => ⟨by decide, fun a1 g1 => ⟨by decide, fun a2 g2 => ⟨by decide, fun a3 g3 => ⟨by decide, fun a4 g4 => ⟨by decide, fun a5 g5 => ⟨by decide, fun a6 g6 => ⟨by decide, fun a7 g7 => ?_⟩⟩⟩⟩⟩⟩⟩⟩
    refine ⟨7, a7, _, rows7, rfl, upd_same, .cons ⟨a2, a1, [.ref a0], rfl, by walk_at "at", by walk_at "at", .cons ⟨a0, rfl, by walk_at "at"⟩ .nil⟩ (.cons ⟨a6, a5, [.ref a3, .ref a4], rfl, by walk_at "at", by walk_at "at", .cons ⟨a3, rfl, by walk_at "at"⟩ (.cons ⟨a4, rfl, by walk_at "at"⟩ .nil)⟩ .nil), by decide, ?_, fun b H2 hb s2 => ?_⟩
    · intro r hr
      simp only [rows7, List.mem_cons, List.not_mem_nil, or_false] at hr
      rcases hr with rfl | rfl
      · exact ⟨by decide, by decide, small21⟩
      · exact ⟨by decide, by decide, small2131⟩
    rw [hb.mpr good7]
    walk_at "z"
    refine ⟨by decide, fun b0 g0 => ⟨by decide, fun b1 g1 => ⟨by decide, fun b2 g2 => ⟨by decide, fun b3 g3 => ⟨by decide, fun b4 g4 => ?_⟩⟩⟩⟩⟩
    refine ⟨7, b4, _, rows7b, rfl, upd_same, .cons ⟨b3, b2, [.ref b0, .ref b1], rfl, by walk_at "at", by walk_at "at", .cons ⟨b0, rfl, by walk_at "at"⟩ (.cons ⟨b1, rfl, by walk_at "at"⟩ .nil)⟩ .nil, by decide, ?_, fun c H3 hc s3 => ?_⟩
    · intro r hr
      simp only [rows7b, List.mem_cons, List.not_mem_nil, or_false] at hr
      rcases hr with rfl
      exact ⟨by decide, by decide, small2131⟩
    have ec : c = false := Bool.eq_false_iff.mpr fun h => bad7 (hc.mp h)
    rw [ec]
    walk_at "z"
    refine ⟨by decide, fun t ht => ⟨t, rfl, ⟨_, sqT_of upd_same⟩, comp_T (sqT_of upd_same) (fun i => ([V.bl false, V.bl false, V.bl true, V.bl true, V.bl false] : List V)[i]?) (by simp) (fun i x Hc hx sc Qo hQo => ?_) (fun D H4 s4 hD => ?_)⟩⟩
    · obtain ⟨n, c, rfl, hn, hc2, ho⟩ : ∃ (n : Nat) (c : Bool), x = .int (n : Int) ∧ n ≤ 341 ∧ (c = true ↔ PrimeN n) ∧ ([V.bl false, V.bl false, V.bl true, V.bl true, V.bl false] : List V)[i]? = some (.bl c) := by
        match i, hx with
        | 0, hx => simp only [List.getElem?_cons_zero, Option.some.injEq] at hx; exact ⟨0, false, hx.symm, by decide, bfalse fun h => absurd h.1 (by decide), rfl⟩
        | 1, hx => simp only [List.getElem?_cons_succ, List.getElem?_cons_zero, Option.some.injEq] at hx; exact ⟨1, false, hx.symm, by decide, bfalse fun h => absurd h.1 (by decide), rfl⟩
        | 2, hx => simp only [List.getElem?_cons_succ, List.getElem?_cons_zero, Option.some.injEq] at hx; exact ⟨2, true, hx.symm, by decide, ⟨fun _ => p2, fun _ => rfl⟩, rfl⟩
        | 3, hx => simp only [List.getElem?_cons_succ, List.getElem?_cons_zero, Option.some.injEq] at hx; exact ⟨97, true, hx.symm, by decide, ⟨fun _ => p97, fun _ => rfl⟩, rfl⟩
        | 4, hx => simp only [List.getElem?_cons_succ, List.getElem?_cons_zero, Option.some.injEq] at hx; exact ⟨341, false, hx.symm, by decide, bfalse (notp 11 (by decide) (by decide) (by decide)), rfl⟩
        | i + 5, hx => simp at hx
      walk_at "z"
      refine ⟨n, rfl, by omega, by omega, fun b5 hb5 => ?_⟩
      rw [bool_same (hb5.trans ⟨primeN_of, primeI_of⟩) hc2]
      have := hQo Hc (Same.refl _)
      rw [ho] at this
      exact this
    · have hD2 : H4 D = some (.lst [V.bl false, V.bl false, V.bl true, V.bl true, V.bl false]) := by rw [hD]; rfl
      walk_at "z"
      refine ⟨by decide, fun R hR => ?_⟩
      refine ⟨_, _, .lst (sqL_of (same_upd hR _ _ hD2)) (bl5 _ _ _ _ _), .lst (sqL_of upd_same) (bl5 _ _ _ _ _), by decide, rfl, ?_⟩
      refine ⟨true, rfl, ?_⟩
      walk_at "z"
      refine ⟨cpow (by decide), 100000000, 100000007, rfl, by decide, by decide, by decide, primeI_of great_prime, fun m m1 m2 mp _ => ?_⟩
      have hm : m = 100000007 := by
        have mp := primeN_of mp
        refine Classical.byContradiction fun c => ?_
        rcases (show m = 100000001 ∨ m = 100000002 ∨ m = 100000003 ∨ m = 100000004 ∨ m = 100000005 ∨ m = 100000006 by omega) with rfl | rfl | rfl | rfl | rfl | rfl
        · exact notp 17 (by decide) (by decide) (by decide) mp
        · exact notp 2 (by decide) (by decide) (by decide) mp
        · exact notp 643 (by decide) (by decide) (by decide) mp
        · exact notp 2 (by decide) (by decide) (by decide) mp
        · exact notp 5 (by decide) (by decide) (by decide) mp
        · exact notp 2 (by decide) (by decide) (by decide) mp
      subst hm
      first
        | (walk_at "z"; exact hq _)
        | (walk_at "z"; simpa using hq _)
        | trace_state
  have key2 : ∀ H' o1 o2 o3 p, TD H' p → t_law_k4_b K { nx := fun _ H' => Q V.non H', rt := Q } [some (.ref a), o1, o2, o3, some (.ref p), none] H' := by
    intro H' o1 o2 o3 p hT
    unfold t_law_k4_b
    walk_at "z"
    refine ⟨by decide, fun a0 g0 => ⟨by decide, fun a1 g1 => ⟨by decide, fun a2 g2 => ⟨by decide, fun a3 g3 => ⟨by decide, fun a4 g4 => ⟨by decide, fun a5 g5 => ⟨by decide, fun a6 g6 => ⟨by decide, fun a7 g7 => ⟨by decide, fun a8 g8 => ?_⟩⟩⟩⟩⟩⟩⟩⟩⟩
    refine ⟨_, _, (hT.same (by walk_at "same")).dp, TD.dp (p := a8) ⟨a0, a3, a1, a2, a4, a7, a5, a6, by walk_at "at", by walk_at "at", by walk_at "at", by walk_at "at", by walk_at "at", by walk_at "at", by walk_at "at", by walk_at "at", by walk_at "at"⟩, dsT_ok.1, dsT_ok.1, ?_⟩
    rw [dsT_ok.2]
    walk_at "z"
    exact key1 _ _ _ _ _
  have key3 : ∀ H' o1 o2 o3, t_law_k5_b K { nx := fun _ H' => Q V.non H', rt := Q } [some (.ref a), o1, o2, o3, none, none] H' := by
    intro H' o1 o2 o3
    unfold t_law_k5_b
    walk_at "z"
    refine ⟨7, rfl, by decide, by decide, fun _ A C T xs rs H1 s1 hA hC _ _ => ?_, fun h => absurd p7 h⟩
    refine ixT (sqT_of hA) (v := .ref C) rfl ?_
    refine ⟨2, rfl, by decide, by decide, fun _ A2 C2 T2 xs2 rs2 H2 s2 hA2 hC2 hT2 hP2 => ?_, fun h => absurd p2 h⟩
    have hx2 : xs2 = [] := List.eq_nil_of_length_eq_zero (by rw [Paired.length hP2.vs, hP2.two rfl]; rfl)
    subst hx2
    refine ⟨91, rfl, by decide, by decide, fun h => absurd h (notp 7 (by decide) (by decide) (by decide)), fun _ A3 C3 T3 q3 r3 H3 s3 _ _ _ _ hA3 hC3 _ => ?_⟩
    refine ixT (sqT_of hA3) (v := .ref C3) rfl ?_
    refine ⟨4, rfl, by decide, by decide, fun h => absurd h (notp 2 (by decide) (by decide) (by decide)), fun _ A4 C4 T4 q4 r4 H4 s4 q42 r42 e4 l4 hA4 hC4 hT4 => ?_⟩
    have hq4 : q4 = 2 := by
      refine Classical.byContradiction fun c => ?_
      exact l4 2 (by decide) (by omega) ⟨2, rfl⟩
    subst hq4
    have hr4 : r4 = 2 := by omega
    subst hr4
    refine ⟨89, 97, rfl, by decide, by decide, by decide, primeI_of p97, fun m m1 m2 mp _ => ?_⟩
    have hm : m = 97 := by
      have mp := primeN_of mp
      refine Classical.byContradiction fun c => ?_
      rcases (show m = 90 ∨ m = 91 ∨ m = 92 ∨ m = 93 ∨ m = 94 ∨ m = 95 ∨ m = 96 by omega) with rfl | rfl | rfl | rfl | rfl | rfl | rfl
      · exact notp 2 (by decide) (by decide) (by decide) mp
      · exact notp 7 (by decide) (by decide) (by decide) mp
      · exact notp 2 (by decide) (by decide) (by decide) mp
      · exact notp 3 (by decide) (by decide) (by decide) mp
      · exact notp 2 (by decide) (by decide) (by decide) mp
      · exact notp 5 (by decide) (by decide) (by decide) mp
      · exact notp 2 (by decide) (by decide) (by decide) mp
    subst hm
    refine ⟨0, 2, rfl, by decide, by decide, by decide, primeI_of p2, fun m' m1' m2' mp' _ => ?_⟩
    have hm' : m' = 2 := by
      have := mp'.1
      omega
    subst hm'
    refine ⟨by decide, fun p hp => key2 _ _ _ _ p ?_⟩
    have sp := same_upd (o := .lst [V.ref C, V.ref A2, V.ref C3, V.ref A4, V.int 97, V.int 2]) hp
    exact ⟨C, A2, C2, T2, C3, A4, C4, T4, upd_same, sp _ _ (s4 _ _ (s3 _ _ (s2 _ _ hC))), sp _ _ (s4 _ _ (s3 _ _ hA2)), sp _ _ (s4 _ _ (s3 _ _ hC2)), sp _ _ (s4 _ _ (s3 _ _ hT2)), sp _ _ (s4 _ _ hC3), sp _ _ hA4, sp _ _ hC4, sp _ _ hT4⟩
  unfold t_law
  walk_at "z"
  refine lenL hS ?_
  walk_at "z"
  have hb : ∃ n : Nat, (if (if ((ns.map V.int).length : Int) < 3 then ((ns.map V.int).length : Int) else 3) > 1 then (if ((ns.map V.int).length : Int) < 3 then ((ns.map V.int).length : Int) else 3) else 1) = (n : Int) ∧ n ≤ 3 := by
    rw [List.length_map]
    refine ⟨(if (if (ns.length : Int) < 3 then (ns.length : Int) else 3) > 1 then (if (ns.length : Int) < 3 then (ns.length : Int) else 3) else 1).toNat, ?_, ?_⟩
    · split <;> split <;> omega
    · split <;> split <;> omega
  obtain ⟨n, hn, hn3⟩ := hb
  rw [hn]
  refine ⟨_, rfl, by omega, by omega, for_R (fun i σ H' => ∃ o1 o2 o3, σ = [some (.ref a), o1, o2, o3, none, none] ∧ Same H H') ⟨_, _, _, rfl, Same.refl H⟩ (fun i σ H' hi h N hN => ?_) (fun σ H' h => ?_)⟩
  · obtain ⟨o1, o2, o3, rfl, s1⟩ := h
    unfold t_law_f2_b
    walk_at "z"
    refine ⟨a, ns, i, by rw [Int.zero_add], s1.seq hS, fun D H2 hD s2 d2 => ?_⟩
    walk_at "z"
    refine ⟨_, rfl, by decide, by decide, for_R (fun i' σ H' => ∃ o3, σ = [some (.ref a), some (.int (0 + (i : Int))), some (.ref D), o3, none, none] ∧ Keep D H2 H' ∧ Dice H' D) ⟨_, rfl, Keep.refl D H2, d2⟩ (fun j σ H3 hj h N2 hN2 => ?_) (fun σ H3 h => ?_)⟩
    · obtain ⟨o3, rfl, k3, d3⟩ := h
      unfold t_law_f1_b
      walk_at "z"
      refine ⟨D, rfl, d3, fun H4 k4 d4 => ?_⟩
      walk_at "z"
      exact hN2 _ _ ⟨_, rfl, k3.trans k4, d4⟩
    · obtain ⟨o3, rfl, k3, d3⟩ := h
      exact hN _ _ ⟨_, _, _, rfl, s1.trans (k3.out s2 hD)⟩
  · obtain ⟨o1, o2, o3, rfl, s1⟩ := h
    exact key3 _ _ _ _

theorem okF_law {P : Program} {w : World} {K : PySem.W.Frag} {mg : Str → Option Value} {base : Heap} {fd : FuncData} (T : Tx K mg) (F : FunD K "law" "law" (defArgs s_law) (defBody s_law) (defScope s_law) [] [] (He.ga K "law") fd) : FnOk P w K mg base CX0 6 (He.ga K "law") fd ["script"] (sp_law K) := by
  obtain ⟨fd_is_prime, F_is_prime, b_is_prime, g_is_prime, k_is_prime⟩ := ok_is_prime (P := P) (w := w) (base := base) T
  obtain ⟨fd_next_prime, F_next_prime, b_next_prime, g_next_prime, k_next_prime⟩ := ok_next_prime (P := P) (w := w) (base := base) T
  obtain ⟨fd_prime_answer, F_prime_answer, b_prime_answer, g_prime_answer, k_prime_answer⟩ := ok_prime_answer (P := P) (w := w) (base := base) T
  obtain ⟨fd__law_dice, F__law_dice, b__law_dice, g__law_dice, k__law_dice⟩ := ok__law_dice (P := P) (w := w) (base := base) T
  obtain ⟨fd__law_pr_is_paper, F__law_pr_is_paper, b__law_pr_is_paper, g__law_pr_is_paper, k__law_pr_is_paper⟩ := ok__law_pr_is_paper (P := P) (w := w) (base := base) T
  obtain ⟨fd__law_right, F__law_right, b__law_right, g__law_right, k__law_right⟩ := ok__law_right (P := P) (w := w) (base := base) T
  have hf_len := T.n_len
  have hf_max := T.n_max
  have hf_min := T.n_min
  have hf_range := T.n_range
  refine F.ok sc_law (fun vs H Q E h => len_law h) (fun cdv A outer s H vs Q E hr h => ⟨t_law K, PSs.nox ?_, pure_law K vs H Q E h⟩)
  have hu64 := hu64_of hr
  exact (pss_cons (ps_for PassesOwn.never rfl (pi_range1 rfl hf_range (pa_cons (pe_callB (call_max2 rfl) (by rfl) hf_max (by decide +kernel) (pa_cons pe_int (pa_cons (pe_callB (call_min2 rfl) (by rfl) hf_min (by decide +kernel) (pa_cons pe_int (pa_cons (pe_callB call_len_seq (by rfl) hf_len (by decide +kernel) (pa_cons (pv 0) pa_nil)) pa_nil))) pa_nil))) pa_nil)) (pg_name (i := 1) sc_law.nd rfl (by first | exact Or.inl rfl | exact Or.inr rfl)) (pss_cons (ps_set (i := 2) sc_law.nd rfl (by first | exact Or.inl rfl | exact Or.inr rfl) (pe_call F__law_dice (hr.mono (by decide)) rfl g__law_dice k__law_dice b__law_dice .nil pass0 (pa_cons (pv 0) (pa_cons (pv 1) pa_nil))))
      (pss_one (ps_for PassesOwn.never rfl (pi_range1 rfl hf_range (pa_cons pe_int pa_nil)) (pg_name (i := 3) sc_law.nd rfl (by first | exact Or.inl rfl | exact Or.inr rfl)) (pss_one (ps_if (pt_not (pt_val (pe_call F__law_right (hr.mono (by decide)) rfl g__law_right k__law_right b__law_right .nil pass0 (pa_cons (pv 2) pa_nil)))) (pss_one (ps_ret pe_bl)) pss_nil))))))
      (pss_cons (ps_set (i := 4) sc_law.nd rfl (by first | exact Or.inl rfl | exact Or.inr rfl) (pe_lst (pa_cons (pe_ix ix_lt (pe_call F_prime_answer (hr.mono (by decide)) rfl g_prime_answer k_prime_answer b_prime_answer .nil pass0 (pa_cons pe_int pa_nil)) pe_int (fun _ _ => rfl)) (pa_cons (pe_call F_prime_answer (hr.mono (by decide)) rfl g_prime_answer k_prime_answer b_prime_answer .nil pass0 (pa_cons pe_int pa_nil)) (pa_cons (pe_ix ix_lt (pe_call F_prime_answer (hr.mono (by decide)) rfl g_prime_answer k_prime_answer b_prime_answer .nil pass0 (pa_cons pe_int pa_nil)) pe_int (fun _ _ => rfl)) (pa_cons (pe_call F_prime_answer (hr.mono (by decide)) rfl g_prime_answer k_prime_answer b_prime_answer .nil pass0 (pa_cons pe_int pa_nil)) (pa_cons (pe_call F_next_prime (hr.mono (by decide)) rfl g_next_prime k_next_prime b_next_prime .nil pass0 (pa_cons pe_int pa_nil)) (pa_cons (pe_call F_next_prime (hr.mono (by decide)) rfl g_next_prime k_next_prime b_next_prime .nil pass0 (pa_cons pe_int pa_nil)) pa_nil))))))))
      (pss_cons (ps_if (pt_cmpR (op_neD hu64) (pv 4) (pe_lst (pa_cons (pe_tup (pa_cons pe_str (pa_cons pe_int pa_nil))) (pa_cons (pe_tup (pa_cons (pe_tup (pa_cons pe_str (pa_cons pe_int pa_nil))) (pa_cons (pe_tup pa_nil) pa_nil))) (pa_cons (pe_tup (pa_cons pe_str (pa_cons pe_int pa_nil))) (pa_cons (pe_tup (pa_cons (pe_tup (pa_cons pe_str (pa_cons pe_int pa_nil))) (pa_cons (pe_tup (pa_cons pe_int (pa_cons pe_int pa_nil))) pa_nil))) (pa_cons pe_int (pa_cons pe_int pa_nil))))))) (nomark _)) (pss_one (ps_ret pe_bl)) pss_nil)
      (pss_cons (ps_if (PW.pt (pw_or (pt_not (pt_val (pe_call F__law_pr_is_paper (hr.mono (by decide)) rfl g__law_pr_is_paper k__law_pr_is_paper b__law_pr_is_paper .nil pass0 (pa_cons pe_int (pa_cons (pe_tup (pa_cons (pe_tup (pa_cons pe_int (pa_cons pe_int (pa_cons (pe_tup (pa_cons (pe_tup (pa_cons pe_int (pa_cons pe_int pa_nil))) pa_nil)) pa_nil)))) (pa_cons (pe_tup (pa_cons pe_int (pa_cons pe_int (pa_cons (pe_tup (pa_cons (pe_tup (pa_cons pe_int (pa_cons pe_int pa_nil))) (pa_cons (pe_tup (pa_cons pe_int (pa_cons pe_int pa_nil))) pa_nil))) pa_nil)))) pa_nil))) pa_nil))))) (pw_or1 (pt_val (pe_call F__law_pr_is_paper (hr.mono (by decide)) rfl g__law_pr_is_paper k__law_pr_is_paper b__law_pr_is_paper .nil pass0 (pa_cons pe_int (pa_cons (pe_tup (pa_cons (pe_tup (pa_cons pe_int (pa_cons pe_int (pa_cons (pe_tup (pa_cons (pe_tup (pa_cons pe_int (pa_cons pe_int pa_nil))) (pa_cons (pe_tup (pa_cons pe_int (pa_cons pe_int pa_nil))) pa_nil))) pa_nil)))) pa_nil)) pa_nil))))))) (pss_one (ps_ret pe_bl)) pss_nil)
      (pss_one (ps_ret (pe_and (pe_cmpR (op_eqD hu64) (pe_lc (own := [("one", 5)]) (g := (gName 5)) (tt := tYes) rfl sc_law.nd (pi_tup (pe_tup (pa_cons pe_int (pa_cons pe_int (pa_cons pe_int (pa_cons pe_int (pa_cons pe_int pa_nil))))))) (blkOk_by (own := [("one", 5)]) (N := ["script", "spot", "dice", "turn", "told", "one"]) (sc := defScope s_law) (by decide +kernel)) (fun _ _ _ _ _ => (pg_name (i := 5) sc_law.nd rfl (by first | exact Or.inl rfl | exact Or.inr rfl))) (fun _ _ _ _ _ => pts_nil) (fun _ _ _ _ _ => (pe_call F_is_prime (hr.mono (by decide)) rfl g_is_prime k_is_prime b_is_prime .nil pass0 (pa_cons (pv 5) pa_nil)))) (pe_lst (pa_cons pe_bl (pa_cons pe_bl (pa_cons pe_bl (pa_cons pe_bl (pa_cons pe_bl pa_nil)))))) (nomark _)) (pe_one (pe_cmpR op_eq (pe_call F_next_prime (hr.mono (by decide)) rfl g_next_prime k_next_prime b_next_prime .nil pass0 (pa_cons (pe_op op_pow pe_int pe_int) pa_nil)) pe_int (nomark _))))))))))
/-! ### the head: facts by names, and what the imports bring -/
def bulOk (K : PySem.W.Frag) (bl : List (Str × String)) : Bool := bl.all fun q => decide (PySem.W.nsIn K mainGlobals q.1 = some (some (.builtin q.2)))
def obsB (bl : List (Str × String)) (fa : List He.Fa) (fn : List He.DefD) (K : PySem.W.Frag) : Bool × He.AlD := (bulOk K bl, He.obsD fa fn K)
def obsBG (n : Nat) (bl : List (Str × String)) (fa : List He.Fa) (fn : List He.DefD) (g : Addr → Option Obj) : Bool × He.AlD := obsB bl fa fn (He.frG g (He.asD g n))
def hookB (n : Nat) (bl : List (Str × String)) (fa : List He.Fa) (fn : List He.DefD) : PySem.W.Hook where
  α := Bool × He.AlD
  obs := fun s => obsBG n bl fa fn s.heap.get?
  val := fun _ => (true, He.valD fn)
  says := fun _ h => ∃ K : PySem.W.Frag, K.In h ∧ bulOk K bl = true ∧ He.SaysD fa fn K
  of := fun _ _ e => ⟨_, He.frG_in, congrArg (fun z : Bool × He.AlD => z.1) e, congrArg (fun z : Bool × He.AlD => z.2) e⟩
  keeps := fun _ _ _ ⟨K, hK, c⟩ k => ⟨K, PySem.W.Frag.In.keeps hK k, c⟩
theorem obsBG_eq {n : Nat} {bl : List (Str × String)} {fa : List He.Fa} {fn : List He.DefD} {g : Addr → Option Obj} {s : Shared} (h : ∀ a, g a = s.heap.get? a) : obsBG n bl fa fn g = (hookB n bl fa fn).obs s := by
  have e : g = s.heap.get? := funext h
  rw [e] <;> rfl
theorem bul_ok {K : PySem.W.Frag} {h : Heap} {mg : Str → Option Value} {bl : List (Str × String)} (X : K.In h) (G : h.Ns mainGlobals mg) (c : bulOk K bl = true) (i : Nat) {q : Str × String} (hi : bl[i]? = some q := by rfl) : mg q.1 = some (.builtin q.2) :=
  PySem.W.mg_of X G (of_decide_eq_true (List.all_eq_true.mp c q (List.mem_of_getElem? hi)))
def d_is_int : He.DefD := ⟨("is_int", none), "is_int", "is_int", defArgs s_is_int, defBody s_is_int, defScope s_is_int, [], []⟩
def d_has_no_parts : He.DefD := ⟨("has_no_parts", none), "has_no_parts", "has_no_parts", defArgs s_has_no_parts, defBody s_has_no_parts, defScope s_has_no_parts, [], []⟩
def d_power_modulo : He.DefD := ⟨("power_modulo", none), "power_modulo", "power_modulo", defArgs s_power_modulo, defBody s_power_modulo, defScope s_power_modulo, [], []⟩
def d_least_divisor : He.DefD := ⟨("least_divisor", none), "least_divisor", "least_divisor", defArgs s_least_divisor, defBody s_least_divisor, defScope s_least_divisor, [], []⟩
def d_prime_powers : He.DefD := ⟨("prime_powers", none), "prime_powers", "prime_powers", defArgs s_prime_powers, defBody s_prime_powers, defScope s_prime_powers, [], []⟩
def d_check_between : He.DefD := ⟨("check_between", none), "check_between", "check_between", defArgs s_check_between, defBody s_check_between, defScope s_check_between, [], []⟩
def d_least_maker_by : He.DefD := ⟨("least_maker_by", none), "least_maker_by", "least_maker_by", defArgs s_least_maker_by, defBody s_least_maker_by, defScope s_least_maker_by, [], []⟩
def d_is_prime : He.DefD := ⟨("is_prime", none), "is_prime", "is_prime", defArgs s_is_prime, defBody s_is_prime, defScope s_is_prime, [], []⟩
def d_next_prime : He.DefD := ⟨("next_prime", none), "next_prime", "next_prime", defArgs s_next_prime, defBody s_next_prime, defScope s_next_prime, [], []⟩
def d_prime_paper : He.DefD := ⟨("prime_paper", none), "prime_paper", "prime_paper", defArgs s_prime_paper, defBody s_prime_paper, defScope s_prime_paper, [], []⟩
def d_prime_answer : He.DefD := ⟨("prime_answer", none), "prime_answer", "prime_answer", defArgs s_prime_answer, defBody s_prime_answer, defScope s_prime_answer, [], []⟩
def d__law_dice : He.DefD := ⟨("_law_dice", none), "_law_dice", "_law_dice", defArgs s__law_dice, defBody s__law_dice, defScope s__law_dice, [], []⟩
def d__law_roll : He.DefD := ⟨("_law_roll", none), "_law_roll", "_law_roll", defArgs s__law_roll, defBody s__law_roll, defScope s__law_roll, [], []⟩
def d__law_pr_least : He.DefD := ⟨("_law_pr_least", none), "_law_pr_least", "_law_pr_least", defArgs s__law_pr_least, defBody s__law_pr_least, defScope s__law_pr_least, [], []⟩
def d__law_pr_power : He.DefD := ⟨("_law_pr_power", none), "_law_pr_power", "_law_pr_power", defArgs s__law_pr_power, defBody s__law_pr_power, defScope s__law_pr_power, [], []⟩
def d__law_pr_times : He.DefD := ⟨("_law_pr_times", none), "_law_pr_times", "_law_pr_times", defArgs s__law_pr_times, defBody s__law_pr_times, defScope s__law_pr_times, [], []⟩
def d__law_pr_is_whole : He.DefD := ⟨("_law_pr_is_whole", none), "_law_pr_is_whole", "_law_pr_is_whole", defArgs s__law_pr_is_whole, defBody s__law_pr_is_whole, defScope s__law_pr_is_whole, [], []⟩
def d__law_pick : He.DefD := ⟨("_law_pick", none), "_law_pick", "_law_pick", defArgs s__law_pick, defBody s__law_pick, defScope s__law_pick, [], []⟩
def d__law_pr_is : He.DefD := ⟨("_law_pr_is", none), "_law_pr_is", "_law_pr_is", defArgs s__law_pr_is, defBody s__law_pr_is, defScope s__law_pr_is, [], []⟩
def d__law_pr_is_row : He.DefD := ⟨("_law_pr_is_row", none), "_law_pr_is_row", "_law_pr_is_row", defArgs s__law_pr_is_row, defBody s__law_pr_is_row, defScope s__law_pr_is_row, [], []⟩
def d__law_is_split : He.DefD := ⟨("_law_is_split", none), "_law_is_split", "_law_is_split", defArgs s__law_is_split, defBody s__law_is_split, defScope s__law_is_split, [], []⟩
def d__law_pr_is_paper : He.DefD := ⟨("_law_pr_is_paper", none), "_law_pr_is_paper", "_law_pr_is_paper", defArgs s__law_pr_is_paper, defBody s__law_pr_is_paper, defScope s__law_pr_is_paper, [], []⟩
def d__law_pr_drawn : He.DefD := ⟨("_law_pr_drawn", none), "_law_pr_drawn", "_law_pr_drawn", defArgs s__law_pr_drawn, defBody s__law_pr_drawn, defScope s__law_pr_drawn, [], []⟩
def d__law_right : He.DefD := ⟨("_law_right", none), "_law_right", "_law_right", defArgs s__law_right, defBody s__law_right, defScope s__law_right, [], []⟩
def d_law : He.DefD := ⟨("law", none), "law", "law", defArgs s_law, defBody s_law, defScope s_law, [], []⟩
def fnl : List He.DefD := [d_is_int, d_has_no_parts, d_power_modulo, d_least_divisor, d_prime_powers, d_check_between, d_least_maker_by, d_is_prime, d_next_prime, d_prime_paper, d_prime_answer, d__law_dice, d__law_roll, d__law_pr_least, d__law_pr_power, d__law_pr_times, d__law_pr_is_whole, d__law_pick, d__law_pr_is, d__law_pr_is_row, d__law_is_split, d__law_pr_is_paper, d__law_pr_drawn, d__law_right, d_law]
def fal : List He.Fa := [.glo "is_int", .glo "has_no_parts", .glo "power_modulo", .glo "least_divisor", .glo "prime_powers", .glo "check_between", .glo "least_maker_by", .glo "is_prime", .glo "next_prime", .glo "prime_paper", .glo "prime_answer", .glo "_law_dice", .glo "_law_roll", .glo "_law_pr_least", .glo "_law_pr_power", .glo "_law_pr_times", .glo "_law_pr_is_whole", .glo "_law_pick", .glo "_law_pr_is", .glo "_law_pr_is_row", .glo "_law_is_split", .glo "_law_pr_is_paper", .glo "_law_pr_drawn", .glo "_law_right", .glo "law", .int "MOST" 100000000, .free "abs", .free "bool", .free "int", .free "isinstance", .free "len", .free "max", .free "min", .free "range", .free "repr", .free "sorted", .free "tuple"]
def bul : List (Str × String) := []
def loose0 : List PySem.Str := ["InvalidNumber", "is_int", "has_no_parts", "power_modulo", "least_divisor", "check_between", "MOST", "is_prime", "next_prime", "prime_powers", "least_maker_by", "prime_paper", "prime_answer", "_law_dice", "_law_roll", "_law_pick", "_law_pr_least", "_law_pr_is", "_law_pr_power", "_law_pr_times", "_law_pr_is_whole", "_law_pr_is_row", "_law_pr_is_paper", "_law_pr_drawn", "_law_right", "_law_is_split"]
def looseL : List PySem.Str := loose0
abbrev RR : PySem.W.OpenRow := PySem.W.OpenLaw.row PySem.Challenge.rw_zeroorone_k04_whole_primes_and_their_pap
abbrev hk : PySem.W.Hook := hookB 5 bul fal fnl
def obz (s : PySem.W.SharedT) : Bool × He.AlD := obsBG 5 bul fal fnl (HandSHeadRun.getT s)
theorem obz_eq (s : PySem.W.SharedT) : obz s = hk.obs s.abs := obsBG_eq (HandSHeadRun.getT_eq s)
theorem run (w : World) : HandSHeadRun.RunEq RR (PySem.W.view RR.prog [31]) hk obz 4000 looseL w := by
  intro os
  kernel_rfl
theorem tx_of {K : PySem.W.Frag} {h : Heap} {mg : Str → Option Value} (X : K.In h) (G : h.Ns mainGlobals mg) (b : bulOk K bul = true) (c : He.SaysD fal fnl K) : Tx K mg where
  f_is_int := c.def_ 0 (d := d_is_int) rfl
  g_is_int := He.glo_ok X G (c.fact 0 (f := .glo "is_int") rfl)
  f_has_no_parts := c.def_ 1 (d := d_has_no_parts) rfl
  g_has_no_parts := He.glo_ok X G (c.fact 1 (f := .glo "has_no_parts") rfl)
  f_power_modulo := c.def_ 2 (d := d_power_modulo) rfl
  g_power_modulo := He.glo_ok X G (c.fact 2 (f := .glo "power_modulo") rfl)
  f_least_divisor := c.def_ 3 (d := d_least_divisor) rfl
  g_least_divisor := He.glo_ok X G (c.fact 3 (f := .glo "least_divisor") rfl)
  f_prime_powers := c.def_ 4 (d := d_prime_powers) rfl
  g_prime_powers := He.glo_ok X G (c.fact 4 (f := .glo "prime_powers") rfl)
  f_check_between := c.def_ 5 (d := d_check_between) rfl
  g_check_between := He.glo_ok X G (c.fact 5 (f := .glo "check_between") rfl)
  f_least_maker_by := c.def_ 6 (d := d_least_maker_by) rfl
  g_least_maker_by := He.glo_ok X G (c.fact 6 (f := .glo "least_maker_by") rfl)
  f_is_prime := c.def_ 7 (d := d_is_prime) rfl
  g_is_prime := He.glo_ok X G (c.fact 7 (f := .glo "is_prime") rfl)
  f_next_prime := c.def_ 8 (d := d_next_prime) rfl
  g_next_prime := He.glo_ok X G (c.fact 8 (f := .glo "next_prime") rfl)
  f_prime_paper := c.def_ 9 (d := d_prime_paper) rfl
  g_prime_paper := He.glo_ok X G (c.fact 9 (f := .glo "prime_paper") rfl)
  f_prime_answer := c.def_ 10 (d := d_prime_answer) rfl
  g_prime_answer := He.glo_ok X G (c.fact 10 (f := .glo "prime_answer") rfl)
  f__law_dice := c.def_ 11 (d := d__law_dice) rfl
  g__law_dice := He.glo_ok X G (c.fact 11 (f := .glo "_law_dice") rfl)
  f__law_roll := c.def_ 12 (d := d__law_roll) rfl
  g__law_roll := He.glo_ok X G (c.fact 12 (f := .glo "_law_roll") rfl)
  f__law_pr_least := c.def_ 13 (d := d__law_pr_least) rfl
  g__law_pr_least := He.glo_ok X G (c.fact 13 (f := .glo "_law_pr_least") rfl)
  f__law_pr_power := c.def_ 14 (d := d__law_pr_power) rfl
  g__law_pr_power := He.glo_ok X G (c.fact 14 (f := .glo "_law_pr_power") rfl)
  f__law_pr_times := c.def_ 15 (d := d__law_pr_times) rfl
  g__law_pr_times := He.glo_ok X G (c.fact 15 (f := .glo "_law_pr_times") rfl)
  f__law_pr_is_whole := c.def_ 16 (d := d__law_pr_is_whole) rfl
  g__law_pr_is_whole := He.glo_ok X G (c.fact 16 (f := .glo "_law_pr_is_whole") rfl)
  f__law_pick := c.def_ 17 (d := d__law_pick) rfl
  g__law_pick := He.glo_ok X G (c.fact 17 (f := .glo "_law_pick") rfl)
  f__law_pr_is := c.def_ 18 (d := d__law_pr_is) rfl
  g__law_pr_is := He.glo_ok X G (c.fact 18 (f := .glo "_law_pr_is") rfl)
  f__law_pr_is_row := c.def_ 19 (d := d__law_pr_is_row) rfl
  g__law_pr_is_row := He.glo_ok X G (c.fact 19 (f := .glo "_law_pr_is_row") rfl)
  f__law_is_split := c.def_ 20 (d := d__law_is_split) rfl
  g__law_is_split := He.glo_ok X G (c.fact 20 (f := .glo "_law_is_split") rfl)
  f__law_pr_is_paper := c.def_ 21 (d := d__law_pr_is_paper) rfl
  g__law_pr_is_paper := He.glo_ok X G (c.fact 21 (f := .glo "_law_pr_is_paper") rfl)
  f__law_pr_drawn := c.def_ 22 (d := d__law_pr_drawn) rfl
  g__law_pr_drawn := He.glo_ok X G (c.fact 22 (f := .glo "_law_pr_drawn") rfl)
  f__law_right := c.def_ 23 (d := d__law_right) rfl
  g__law_right := He.glo_ok X G (c.fact 23 (f := .glo "_law_right") rfl)
  f_law := c.def_ 24 (d := d_law) rfl
  g_law := He.glo_ok X G (c.fact 24 (f := .glo "law") rfl)
  c_MOST := He.int_ok X G (c.fact 25 (f := .int "MOST" 100000000) rfl)
  n_abs := He.free_ok X G (c.fact 26 (f := .free "abs") rfl)
  n_bool := He.free_ok X G (c.fact 27 (f := .free "bool") rfl)
  n_int := He.free_ok X G (c.fact 28 (f := .free "int") rfl)
  n_isinstance := He.free_ok X G (c.fact 29 (f := .free "isinstance") rfl)
  n_len := He.free_ok X G (c.fact 30 (f := .free "len") rfl)
  n_max := He.free_ok X G (c.fact 31 (f := .free "max") rfl)
  n_min := He.free_ok X G (c.fact 32 (f := .free "min") rfl)
  n_range := He.free_ok X G (c.fact 33 (f := .free "range") rfl)
  n_repr := He.free_ok X G (c.fact 34 (f := .free "repr") rfl)
  n_sorted := He.free_ok X G (c.fact 35 (f := .free "sorted") rfl)
  n_tuple := He.free_ok X G (c.fact 36 (f := .free "tuple") rfl)
end L2.Z
open PySem PySem.W PySem.Calls PyProof.Rows
theorem PySem.Challenge.cw_zeroorone_k04_whole_primes_and_their_pap_holds : PySem.Challenge.rw_zeroorone_k04_whole_primes_and_their_pap.Holds := by
  w_on; o_law
  refine HandSHeadRun.head_any (r := (OpenLaw.row PySem.Challenge.rw_zeroorone_k04_whole_primes_and_their_pap)) (q := view (OpenLaw.row PySem.Challenge.rw_zeroorone_k04_whole_primes_and_their_pap).prog [31]) (H := L2.Z.hk) (ob := L2.Z.obz) (M := 4000) (loose := L2.Z.looseL) (d := HandSHeadRun.topDef (OpenLaw.row PySem.Challenge.rw_zeroorone_k04_whole_primes_and_their_pap).prog 31) (kwd := []) L2.Z.obz_eq
    (by kernel_rfl) (fun s => by kernel_rfl) L2.Z.run (by kernel_rfl) (by kernel_rfl) (by kernel_rfl) (by rfl) (by first | assumption | decide +kernel) (by decide +kernel) ⟨rfl, rfl, rfl, rfl, rfl, by decide +kernel⟩ ?hw ?hc
  case hw => w_witness2
  case hc =>
    refine L2.walk_ofE (l := PySem.Challenge.rw_zeroorone_k04_whole_primes_and_their_pap) (n := 63) (k := 6) (x := "script") (CX := L2.CX0) rfl (by decide) (by kernel_rfl) ⟨rfl, by decide, by decide⟩ ?F (fun _ _ _ _ z => z)
    intro w mg fa h Y G hmg0
    obtain ⟨K, KX, bb, cc⟩ := Y
    have T := L2.Z.tx_of KX G bb cc
    have hmg : mg ("law" : PySem.Str) = some (.ref fa) := by
      have e : (HandSHeadRun.topDef (OpenLaw.row PySem.Challenge.rw_zeroorone_k04_whole_primes_and_their_pap).prog 31).name = ("law" : PySem.Str) := by kernel_rfl
      rw [← e]
      exact hmg0
    have e := hmg.symm.trans T.g_law
    cases e
    obtain ⟨fd, F⟩ := T.f_law
    have hb := L2.FunD.bindsA (ps := ["script"]) F fun _ _ _ _ _ _ us hl => match us, hl with | [_], _ => rfl
    refine ⟨K, fd, L2.Z.sp_law K, KX, fun s v => hb s [v] rfl, fun H a ns hl _ hS => ⟨a, ns, rfl, hS, hl, fun _ => rfl⟩, fun base _ _ => L2.Z.okF_law T F⟩
