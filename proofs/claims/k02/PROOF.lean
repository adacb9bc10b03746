import PyProof.Rows.All
import Wide.All
import OpenK.AllK
import Wide.FinOn
import HandS.ForMost
import HandS.Wide
import HandS.Deep
import HandS.Zip
import HandS.IsInst
import HandS.Defaults
import HandS.More
import HandS.Style
import HandS.Evl
import HandS.TupAny
import HandS.MakeKwOnly
import HandS.RaiseMore
import HandS.Replace
import PySem.Challenge.RW_ownrail_k02_ways_and_steps
set_option Elab.async false
set_option linter.all false
set_option maxRecDepth 100000
set_option maxHeartbeats 4000000
/-! what every proof here leans on: data made of tuples, which no store can change -/
namespace OR
open PySem PySem.Spec PyProof.Rows L2

theorem hu65 {A : Around} {k : Nat} (hr : Room k A) : A.units + 65 < cLine := by
  have := hr.un
  omega

/-! ### tuples stay -/
def Tk (H H' : Hp) : Prop := ∀ a xs, Rd H a (.tup xs) → Rd H' a (.tup xs)
theorem Tk.refl (H : Hp) : Tk H H := fun _ _ h => h
theorem Tk.trans {H H1 H2 : Hp} (a : Tk H H1) (b : Tk H1 H2) : Tk H H2 := fun x o h => b x o (a x o h)
theorem tk_same {H H' : Hp} (e : Same H H') : Tk H H' := fun a xs h => by
  rcases h with h | ⟨o, h⟩
  · exact .inl (e _ _ h)
  · exact .inr ⟨o, e _ _ h⟩
theorem tk_seq {K : PySem.W.Frag} {H H' : Hp} {a : Addr} {xs : List V} (e : Tk H H') (h : SqT K H a xs) : SqT K H' a xs := by
  rcases h with h | h
  · exact .inl (e _ _ h)
  · exact .inr h
theorem same_new {H : Hp} {p : Addr} {o : HO} (h : H p = none) : Same H (upd H p o) := fun b x e => by
  rw [upd_ne (ne_of_none e h)]
  exact e
theorem tk_new {H : Hp} {p : Addr} {o : HO} (h : H p = none) : Tk H (upd H p o) := tk_same (same_new h)
/-- all but the object at b is as it was -/
def But (b : Addr) (H H' : Hp) : Prop := ∀ a o, a ≠ b → H a = some o → H' a = some o
theorem But.refl (b : Addr) (H : Hp) : But b H H := fun _ _ _ h => h
theorem But.trans {b : Addr} {H H1 H2 : Hp} (x : But b H H1) (y : But b H1 H2) : But b H H2 := fun a o n h => y a o n (x a o n h)
theorem but_same {b : Addr} {H H' : Hp} (e : Same H H') : But b H H' := fun a o _ h => e a o h
theorem but_set {b : Addr} {H : Hp} {o : HO} : But b H (upd H b o) := fun a u n h => by
  rw [upd_ne n]
  exact h
theorem tk_set {H : Hp} {b : Addr} {xs : List V} {o : HO} (hb : H b = some (.lst xs)) : Tk H (upd H b o) := fun a ys h => by
  have n : a ≠ b := fun z => by
    subst z
    rcases h with h | ⟨u, h⟩
    · rw [hb] at h
      cases h
    · rw [hb] at h
      cases h
  rcases h with h | ⟨u, h⟩
  · exact .inl (by rw [upd_ne n]; exact h)
  · exact .inr ⟨u, by rw [upd_ne n]; exact h⟩
theorem tk_but {H H' : Hp} {b : Addr} {xs : List V} (hb : H b = some (.lst xs)) (e : But b H H') : Tk H H' := fun a ys h => by
  have n : a ≠ b := fun z => by
    subst z
    rcases h with h | ⟨u, h⟩
    · rw [hb] at h
      cases h
    · rw [hb] at h
      cases h
  rcases h with h | ⟨u, h⟩
  · exact .inl (e _ _ n h)
  · exact .inr ⟨u, e _ _ n h⟩

/-! ### data of tuples, ints, texts, truths, None -/
mutual
inductive DT (K : PySem.W.Frag) (H : Hp) : V → PyData → Prop
  | non : DT K H .non .none
  | bl (b : Bool) : DT K H (.bl b) (.bool b)
  | int (i : Int) : DT K H (.int i) (.int i)
  | str (x : Str) : DT K H (.str x) (.str x)
  | tup {a : Addr} {xs : List V} {ds : List PyData} : SqT K H a xs → DTs K H xs ds → DT K H (.ref a) (.tuple ds)
inductive DTs (K : PySem.W.Frag) (H : Hp) : List V → List PyData → Prop
  | nil : DTs K H [] []
  | cons {v : V} {vs : List V} {d : PyData} {ds : List PyData} : DT K H v d → DTs K H vs ds → DTs K H (v :: vs) (d :: ds)
end
section
variable {K : PySem.W.Frag} {H H' : Hp}
mutual
theorem DT.mono (e : Tk H H') : ∀ (d : PyData) (v : V), DT K H v d → DT K H' v d
  | .none, _, h => by cases h; exact .non
  | .bool b, _, h => by cases h; exact .bl b
  | .int i, _, h => by cases h; exact .int i
  | .str x, _, h => by cases h; exact .str x
  | .tuple ds, _, h => by
    cases h with
    | tup hs ha => exact .tup (tk_seq e hs) (DTs.mono e ds _ ha)
  | .list _, _, h => by cases h
  | .dict _, _, h => by cases h
theorem DTs.mono (e : Tk H H') : ∀ (ds : List PyData) (vs : List V), DTs K H vs ds → DTs K H' vs ds
  | [], _, h => by cases h; exact .nil
  | d :: ds, _, h => by
    cases h with
    | cons h1 h2 => exact .cons (DT.mono e d _ h1) (DTs.mono e ds _ h2)
end
mutual
theorem DT.dp : ∀ (d : PyData) (v : V), DT K H v d → Dp K H v d
  | .none, _, h => by cases h; exact .non
  | .bool b, _, h => by cases h; exact .bl b
  | .int i, _, h => by cases h; exact .int i
  | .str x, _, h => by cases h; exact .str x
  | .tuple ds, _, h => by
    cases h with
    | tup hs ha => exact .tup hs (DTs.dp ds _ ha)
  | .list _, _, h => by cases h
  | .dict _, _, h => by cases h
theorem DTs.dp : ∀ (ds : List PyData) (vs : List V), DTs K H vs ds → DpAll K H vs ds
  | [], _, h => by cases h; exact .nil
  | d :: ds, _, h => by
    cases h with
    | cons h1 h2 => exact .cons (DT.dp d _ h1) (DTs.dp ds _ h2)
end
theorem DT.up {v : V} {d : PyData} (h : DT K H v d) (e : Tk H H') : DT K H' v d := DT.mono e d v h
theorem DTs.up {vs : List V} {ds : List PyData} (h : DTs K H vs ds) (e : Tk H H') : DTs K H' vs ds := DTs.mono e ds vs h
theorem DTs.length {vs : List V} : ∀ {ds : List PyData}, DTs K H vs ds → vs.length = ds.length := by
  induction vs with
  | nil => intro ds h; cases h; rfl
  | cons v vs ih =>
    intro ds h
    cases h with
    | cons h1 h2 => rw [List.length_cons, List.length_cons, ih h2]
theorem DTs.get {vs : List V} : ∀ {ds : List PyData} {i : Nat} {d : PyData}, DTs K H vs ds → ds[i]? = some d → ∃ v, vs[i]? = some v ∧ DT K H v d := by
  induction vs with
  | nil => intro ds i d h e; cases h; simp at e
  | cons v vs ih =>
    intro ds i d h e
    cases h with
    | cons h1 h2 =>
      cases i with
      | zero => simp at e; subst e; exact ⟨v, rfl, h1⟩
      | succ i =>
        obtain ⟨u, q1, q2⟩ := ih h2 (i := i) (d := d) (by simpa using e)
        exact ⟨u, by simpa using q1, q2⟩
theorem DTs.getV {vs : List V} : ∀ {ds : List PyData} {i : Nat} {v : V}, DTs K H vs ds → vs[i]? = some v → ∃ d, ds[i]? = some d ∧ DT K H v d := by
  induction vs with
  | nil => intro ds i d h e; simp at e
  | cons u vs ih =>
    intro ds i d h e
    cases h with
    | cons h1 h2 =>
      cases i with
      | zero => simp at e; subst e; exact ⟨_, rfl, h1⟩
      | succ i =>
        obtain ⟨u, q1, q2⟩ := ih h2 (i := i) (v := d) (by simpa using e)
        exact ⟨u, by simpa using q1, q2⟩
theorem DTs.append {vs ws : List V} {ds es : List PyData} (h : DTs K H vs ds) (h2 : DTs K H ws es) : DTs K H (vs ++ ws) (ds ++ es) := by
  induction vs generalizing ds with
  | nil => cases h; exact h2
  | cons v vs ih =>
    cases h with
    | cons a b => exact .cons a (ih b)
theorem DTs.take {vs : List V} {ds : List PyData} (n : Nat) (h : DTs K H vs ds) : DTs K H (vs.take n) (ds.take n) := by
  induction vs generalizing ds n with
  | nil => cases h; rw [List.take_nil, List.take_nil]; exact .nil
  | cons v vs ih =>
    cases h with
    | cons a b =>
      cases n with
      | zero => exact .nil
      | succ n => exact .cons a (ih n b)
theorem DTs.drop {vs : List V} {ds : List PyData} (n : Nat) (h : DTs K H vs ds) : DTs K H (vs.drop n) (ds.drop n) := by
  induction vs generalizing ds n with
  | nil => cases h; rw [List.drop_nil, List.drop_nil]; exact .nil
  | cons v vs ih =>
    cases h with
    | cons a b =>
      cases n with
      | zero => exact .cons a b
      | succ n => exact ih n b
theorem DT.tupOf {v : V} {ds : List PyData} (h : DT K H v (.tuple ds)) : ∃ a xs, v = .ref a ∧ SqT K H a xs ∧ DTs K H xs ds := by
  cases h with
  | tup hs ha => exact ⟨_, _, rfl, hs, ha⟩
theorem DT.intOf {v : V} {i : Int} (h : DT K H v (.int i)) : v = .int i := by cases h; rfl
theorem DT.strOf {v : V} {i : Str} (h : DT K H v (.str i)) : v = .str i := by cases h; rfl
theorem DT.blOf {v : V} {i : Bool} (h : DT K H v (.bool i)) : v = .bl i := by cases h; rfl
theorem DTs.one {vs : List V} {d : PyData} (h : DTs K H vs [d]) : ∃ v, vs = [v] ∧ DT K H v d := by
  cases h with
  | cons a b => cases b; exact ⟨_, rfl, a⟩
theorem DTs.two {vs : List V} {d e : PyData} (h : DTs K H vs [d, e]) : ∃ v u, vs = [v, u] ∧ DT K H v d ∧ DT K H u e := by
  cases h with
  | cons a b =>
    obtain ⟨u, rfl, q⟩ := b.one
    exact ⟨_, u, rfl, a, q⟩
theorem DTs.five {vs : List V} {a b c d e : PyData} (h : DTs K H vs [a, b, c, d, e]) : ∃ v1 v2 v3 v4 v5, vs = [v1, v2, v3, v4, v5] ∧ DT K H v1 a ∧ DT K H v2 b ∧ DT K H v3 c ∧ DT K H v4 d ∧ DT K H v5 e := by
  cases h with
  | cons h1 h => cases h with
    | cons h2 h => cases h with
      | cons h3 h =>
        obtain ⟨v4, v5, rfl, h4, h5⟩ := h.two
        exact ⟨_, _, _, _, _, rfl, h1, h2, h3, h4, h5⟩
theorem DT.new {p : Addr} {xs : List V} {ds : List PyData} (h : DTs K H xs ds) (n : H p = none) : DT K (upd H p (.tup xs)) (.ref p) (.tuple ds) := .tup (SqT.of upd_same) (h.up (tk_new n))
end

/-! ### squares, rails, engines -/
inductive Sh where
  | l | s | r
  deriving DecidableEq
def Sh.str : Sh → Str
  | .l => "l"
  | .s => "s"
  | .r => "r"
def Sh.t : Sh → Int
  | .l => -1
  | .s => 0
  | .r => 1
def sq (p : Int × Int) : PyData := .tuple [.int p.1, .int p.2]
def rail (r : Sh × Int) : PyData := .tuple [.str r.1.str, .int r.2]
def eng (x y way look : Int) (rs : List (Sh × Int)) : PyData := .tuple [.int x, .int y, .int way, .int look, .tuple (rs.map rail)]
def tn (w : Int) (s : Sh) : Int := (w + s.t) % 4
def tb (w : Int) (s : Sh) : Int := (w - s.t) % 4
def dx (w : Int) : Int := if w = 1 then 1 else if w = 3 then -1 else 0
def dy (w : Int) : Int := if w = 0 then 1 else if w = 2 then -1 else 0
def on (p : Int × Int) (w : Int) : Int × Int := (p.1 + dx w, p.2 + dy w)
theorem tn_lo (w : Int) (s : Sh) : 0 ≤ tn w s := Int.emod_nonneg _ (by decide)
theorem tn_hi (w : Int) (s : Sh) : tn w s ≤ 3 := by
  have h : (w + s.t) % 4 < 4 := Int.emod_lt_of_pos _ (by decide)
  unfold tn
  omega
theorem tb_lo (w : Int) (s : Sh) : 0 ≤ tb w s := Int.emod_nonneg _ (by decide)
theorem tb_hi (w : Int) (s : Sh) : tb w s ≤ 3 := by
  have h : (w - s.t) % 4 < 4 := Int.emod_lt_of_pos _ (by decide)
  unfold tb
  omega
theorem way4 {w : Int} (h0 : 0 ≤ w) (h3 : w ≤ 3) : w = 0 ∨ w = 1 ∨ w = 2 ∨ w = 3 := by omega

/-! ### a law's box -/
def Box (H : Hp) (b : Addr) : Prop := ∃ i s c : Int, H b = some (.lst [.int i, .int s, .int c])
def spTake : Sp := fun vs H Q _ => ∃ (b : Addr) (m : Int), vs = [.ref b, .int m] ∧ Box H b ∧ 0 < m ∧ m < 2 ^ 64 ∧ ∀ r H', 0 ≤ r → r < m → But b H H' → Box H' b → Q (.int r) H'
def spBox (K : PySem.W.Frag) : Sp := fun vs H Q _ => ∃ (a : Addr) (ns : List Int) (k : Int), vs = [.ref a, .int k] ∧ SqL K H a (ns.map V.int) ∧ 0 ≤ k ∧ k < 2 ^ 60 ∧ ∀ b H', H b = none → Same H H' → Box H' b → Q (.ref b) H'
theorem mod_in {a m : Int} (h : 0 < m) : 0 ≤ a % m ∧ a % m < m := ⟨Int.emod_nonneg _ (by omega), Int.emod_lt_of_pos _ h⟩
theorem div_ok {i m : Int} (h : 0 < m) (h2 : m < 2 ^ 64) : CDivW i m := wide_div (b := 64) h (by omega) (by decide) (by decide)
theorem But.up {b : Addr} {H H' : Hp} {v : V} {d : PyData} {K : PySem.W.Frag} (e : But b H H') (hb : Box H b) (h : DT K H v d) : DT K H' v d := by
  obtain ⟨i, s, c, hb⟩ := hb
  exact h.up (tk_but hb e)
theorem atI_ints {ns : List Int} {k : Int} (h0 : 0 ≤ k) (h : k < (ns.length : Int)) : ∃ z, atI (ns.map V.int) k = some (.int z) := by
  obtain ⟨j, rfl⟩ := Int.eq_ofNat_of_zero_le h0
  have hj : j < ns.length := by omega
  exact ⟨ns[j], atI_nat (by rw [List.getElem?_map, List.getElem?_eq_getElem hj]; rfl)⟩

/-! ### == of squares -/
theorem eqv_sq (p q : Int × Int) : PyData.eqv (sq p) (sq q) = decide (p = q) := by
  obtain ⟨a, b⟩ := p
  obtain ⟨c, d⟩ := q
  simp only [sq, PyData.eqv, PyData.eqvAll, Bool.and_true]
  by_cases h : (a, b) = (c, d)
  · cases h
    simp
  · rw [decide_eq_false h]
    rw [Bool.and_eq_false_iff]
    by_cases h1 : a = c
    · right
      subst h1
      have : b ≠ d := fun z => h (by rw [z])
      simpa using this
    · left
      simpa using h1
theorem any_sq (p : Int × Int) : ∀ qs : List (Int × Int), ((qs.map sq).any fun z => PyData.eqv z (sq p)) = decide (p ∈ qs)
  | [] => by simp
  | q :: qs => by
    rw [List.map_cons, List.any_cons, any_sq p qs, eqv_sq]
    by_cases h : q = p
    · subst h
      simp
    · have h' : ¬ p = q := fun z => h z.symm
      simp [h, h']
theorem lay_sq (p : Int × Int) : (sq p).canLay0 = true := rfl
theorem lay_sqs : ∀ qs : List (Int × Int), PyData.canLayAll0 (qs.map sq) = true
  | [] => rfl
  | q :: qs => by
    rw [List.map_cons, PyData.canLayAll0, lay_sq, lay_sqs qs]
    rfl
theorem dep_sqs : ∀ qs : List (Int × Int), PyData.depthAll (qs.map sq) ≤ 3
  | [] => by simp [PyData.depthAll]
  | q :: qs => by
    have h := dep_sqs qs
    rw [List.map_cons, PyData.depthAll]
    have h2 : (sq q).depth ≤ 3 := by simp [sq, PyData.depth, PyData.depthAll]
    omega
theorem shaped_sq (p : Int × Int) : SeqAt.shaped (sq p) = true := by
  obtain ⟨a, b⟩ := p
  simp [SeqAt.shaped, sq, PyData.canLay0, PyData.canLayAll0, PyData.depth, PyData.depthAll]
theorem shaped_sqs (qs : List (Int × Int)) : SeqAt.shaped (.list (qs.map sq)) = true := by
  have h := dep_sqs qs
  have h2 := lay_sqs qs
  unfold SeqAt.shaped
  rw [PyData.canLay0, h2, PyData.depth, decide_eq_true (by omega)]
  rfl

/-! ### the road walked -/
def wst (x y w : Int) (rs : List (Sh × Int)) : List (Int × Int) × Int := rs.foldl (fun a r => (a.1 ++ [on (a.1.getLastD (0, 0)) (tn a.2 r.1)], tn a.2 r.1)) ([(x, y)], w)
theorem wst_snoc (x y w : Int) (rs : List (Sh × Int)) (r : Sh × Int) : wst x y w (rs ++ [r]) = ((wst x y w rs).1 ++ [on ((wst x y w rs).1.getLastD (0, 0)) (tn (wst x y w rs).2 r.1)], tn (wst x y w rs).2 r.1) := by
  unfold wst
  rw [List.foldl_append]
  rfl
theorem getLastD_snoc {α : Type} (l : List α) (a d : α) : (l ++ [a]).getLastD d = a := by
  rw [List.getLastD_eq_getLast?, List.getLast?_concat]
  rfl
/-- an engine as a law draws it -/
structure Drawn (x y w look : Int) (rs : List (Sh × Int)) : Prop where
  w0 : 0 ≤ w
  w3 : w ≤ 3
  lk : look = 1 ∨ look = -1
  ne : rs ≠ []
  ln : rs.length ≤ 12
  col : ∀ r ∈ rs, 0 ≤ r.2 ∧ r.2 ≤ 9
  nd : ((wst x y w rs).1.dropLast).Nodup
def spTurn : Sp := fun vs H Q _ => ∃ (w : Int) (s : Sh), vs = [.int w, .str s.str] ∧ ∀ H', Same H H' → Q (.int (tn w s)) H'
def spOn (K : PySem.W.Frag) : Sp := fun vs H Q _ => ∃ (v : V) (p : Int × Int) (w : Int), vs = [v, .int w] ∧ DT K H v (sq p) ∧ 0 ≤ w ∧ w ≤ 3 ∧ ∀ v' H', Same H H' → DT K H' v' (sq (on p w)) → Q v' H'
def spEngine (K : PySem.W.Frag) : Sp := fun vs H Q _ => ∃ (b : Addr) (m far : Int), vs = [.ref b, .int m, .int far] ∧ Box H b ∧ 0 < m ∧ m ≤ 12 ∧ 0 ≤ far ∧ far ≤ 1000000000 ∧
  ∀ v H' x y w look rs, Drawn x y w look rs → -far ≤ x → x ≤ far → -far ≤ y → y ≤ far → (rs.length : Int) ≤ m → But b H H' → Box H' b → DT K H' v (eng x y w look rs) → Q v H'
def t3 : Sh → Int
  | .l => 3
  | .s => 0
  | .r => 1
theorem t3_tn (w : Int) (s : Sh) : (w + t3 s) % 4 = tn w s := by
  cases s <;> simp only [t3, tn, Sh.t] <;> omega
def shOf (k : Int) : Sh := if k = 0 then .l else if k = 2 then .r else .s
theorem pick4 {r : Int} (h0 : 0 ≤ r) (h1 : r < 4) : ∃ c, atI ("lsrs" : Str).cps.toList r = some c ∧ (⟨#[c]⟩ : Str) = (shOf r).str := by
  have h : r = 0 ∨ r = 1 ∨ r = 2 ∨ r = 3 := by omega
  rcases h with rfl | rfl | rfl | rfl
  · exact ⟨108, by decide +kernel, by decide +kernel⟩
  · exact ⟨115, by decide +kernel, by decide +kernel⟩
  · exact ⟨114, by decide +kernel, by decide +kernel⟩
  · exact ⟨115, by decide +kernel, by decide +kernel⟩
structure EngInv (K : PySem.W.Frag) (b p1 p2 : Addr) (H H' : Hp) (x y w : Int) (i : Nat) (rs : List (Sh × Int)) (qs : List (Int × Int)) (here : Int × Int) (ahead : Int) (vh : V) (xs ys : List V) : Prop where
  dh : DT K H' vh (sq here)
  h1 : H' p1 = some (.lst xs)
  d1 : DTs K H' xs (rs.map rail)
  h2 : H' p2 = some (.lst ys)
  d2 : DTs K H' ys (qs.map sq)
  bx : Box H' b
  bt : But b H H'
  ln : rs.length ≤ i
  ne : 1 ≤ i → rs ≠ []
  z : i = 0 → qs = []
  ws : wst x y w rs = (qs ++ [here], ahead)
  nd : qs.Nodup
  col : ∀ r ∈ rs, 0 ≤ r.2 ∧ r.2 ≤ 9
  lq : qs.length = rs.length
theorem EngInv.but {K : PySem.W.Frag} {b p1 p2 : Addr} {H H' H2 : Hp} {x y w : Int} {i : Nat} {rs : List (Sh × Int)} {qs : List (Int × Int)} {here : Int × Int} {ahead : Int} {vh : V} {xs ys : List V}
    (I : EngInv K b p1 p2 H H' x y w i rs qs here ahead vh xs ys) (e : But b H' H2) (hb : Box H2 b) (n1 : p1 ≠ b) (n2 : p2 ≠ b) : EngInv K b p1 p2 H H2 x y w i rs qs here ahead vh xs ys := by
  obtain ⟨_, _, _, h0⟩ := I.bx
  have t := tk_but h0 e
  exact ⟨I.dh.up t, e _ _ n1 I.h1, I.d1.up t, e _ _ n2 I.h2, I.d2.up t, hb, I.bt.trans e, I.ln, I.ne, I.z, I.ws, I.nd, I.col, I.lq⟩
theorem EngInv.skip {K : PySem.W.Frag} {b p1 p2 : Addr} {H H' : Hp} {x y w : Int} {i : Nat} {rs : List (Sh × Int)} {qs : List (Int × Int)} {here : Int × Int} {ahead : Int} {vh : V} {xs ys : List V}
    (I : EngInv K b p1 p2 H H' x y w i rs qs here ahead vh xs ys) (hm : here ∈ qs) : EngInv K b p1 p2 H H' x y w (i + 1) rs qs here ahead vh xs ys := by
  refine ⟨I.dh, I.h1, I.d1, I.h2, I.d2, I.bx, I.bt, Nat.le_succ_of_le I.ln, fun _ => ?_, fun z => by omega, I.ws, I.nd, I.col, I.lq⟩
  by_cases h : i = 0
  · rw [I.z h] at hm
    cases hm
  · exact I.ne (by omega)
theorem EngInv.go {K : PySem.W.Frag} {b p1 p2 t : Addr} {H H' H2 : Hp} {x y w c : Int} {sh : Sh} {i : Nat} {rs : List (Sh × Int)} {qs : List (Int × Int)} {here : Int × Int} {ahead : Int} {vh v2 : V} {xs ys : List V}
    (I : EngInv K b p1 p2 H H' x y w i rs qs here ahead vh xs ys) (hm : ¬ here ∈ qs) (nt : H' t = none) (n1 : p1 ≠ b) (n2 : p2 ≠ b) (n21 : p2 ≠ p1) (f1 : H p1 = none) (f2 : H p2 = none) (c0 : 0 ≤ c) (c9 : c ≤ 9)
    (e : Same (upd (upd (upd H' t (.tup [.str sh.str, .int c])) p1 (.lst (xs ++ [.ref t]))) p2 (.lst (ys ++ [vh]))) H2) (d2 : DT K H2 v2 (sq (on here (tn ahead sh)))) :
    EngInv K b p1 p2 H H2 x y w (i + 1) (rs ++ [(sh, c)]) (qs ++ [here]) (on here (tn ahead sh)) (tn ahead sh) v2 (xs ++ [.ref t]) (ys ++ [vh]) := by
  have t1 : p1 ≠ t := ne_of_none I.h1 nt
  have t2 : p2 ≠ t := ne_of_none I.h2 nt
  have k1 : Tk H' (upd H' t (.tup [.str sh.str, .int c])) := tk_new nt
  have k2 : Tk (upd H' t (.tup [.str sh.str, .int c])) (upd (upd H' t (.tup [.str sh.str, .int c])) p1 (.lst (xs ++ [.ref t]))) := tk_set (by rw [upd_ne t1]; exact I.h1)
  have k3 : Tk (upd (upd H' t (.tup [.str sh.str, .int c])) p1 (.lst (xs ++ [.ref t]))) (upd (upd (upd H' t (.tup [.str sh.str, .int c])) p1 (.lst (xs ++ [.ref t]))) p2 (.lst (ys ++ [vh]))) := tk_set (by rw [upd_ne n21, upd_ne t2]; exact I.h2)
  have k := (k2.trans k3).trans (tk_same e)
  have kk := k1.trans k
  refine ⟨d2, e _ _ (by rw [upd_ne n21.symm, upd_same]), ?_, e _ _ upd_same, ?_, ?_, ?_, ?_, fun _ => by simp, fun z => by omega, ?_, nd_snoc I.nd hm, ?_, ?_⟩
  · rw [List.map_append]
    exact (I.d1.up kk).append (.cons ((DT.new (K := K) (.cons (.str _) (.cons (.int c) .nil)) nt).up k) .nil)
  · rw [List.map_append]
    exact (I.d2.up kk).append (.cons (I.dh.up kk) .nil)
  · obtain ⟨a1, a2, a3, h0⟩ := I.bx
    have bt : b ≠ t := ne_of_none h0 nt
    exact ⟨a1, a2, a3, e _ _ (by rw [upd_ne n2.symm, upd_ne n1.symm, upd_ne bt]; exact h0)⟩
  · intro a o n h
    have h' := I.bt a o n h
    refine e _ _ ?_
    rw [upd_ne (ne_of_none h f2), upd_ne (ne_of_none h f1), upd_ne (ne_of_none h' nt)]
    exact h'
  · rw [List.length_append]
    exact Nat.succ_le_succ I.ln
  · rw [wst_snoc, I.ws]
    dsimp only
    rw [getLastD_snoc]
  · intro r hr
    rcases List.mem_append.mp hr with h | h
    · exact I.col r h
    · cases List.mem_singleton.mp h
      exact ⟨c0, c9⟩
  · rw [List.length_append, List.length_append, I.lq]
    rfl
/-! ### tuples cut, put together, read -/
def cutD (xs : List PyData) (lo hi : Option Int) : List PyData := (xs.drop (HT.sIx xs.length 0 lo)).take (HT.sIx xs.length xs.length hi - HT.sIx xs.length 0 lo)
theorem DTs.cut {K : PySem.W.Frag} {H : Hp} {vs : List V} {ds : List PyData} (lo hi : Option Int) (h : DTs K H vs ds) : DTs K H (cutV vs lo hi) (cutD ds lo hi) := by
  unfold cutV cutD
  rw [h.length]
  exact (h.drop _).take _
theorem r_slA {K : PySem.W.Frag} {H : Hp} {v : V} {ds : List PyData} {lo hi : Option Int} {Q : VK} (h : DT K H v (.tuple ds)) (q : ∀ v' H', Same H H' → DT K H' v' (.tuple (cutD ds lo hi)) → Q v' H') : rSlA K v lo hi H Q := by
  obtain ⟨a, xs, rfl, hs, hx⟩ := h.tupOf
  refine ⟨a, xs, rfl, hs, fun e => ?_, fun _ p np => q _ _ (same_new np) (DT.new (hx.cut lo hi) np)⟩
  have e2 : cutD ds lo hi = ds := by
    unfold cutD
    rw [hx.length] at e
    rw [e.1, e.2, List.drop_zero, Nat.sub_zero, List.take_length]
  refine q _ _ (Same.refl H) ?_
  rw [e2]
  exact .tup hs hx
theorem r_catA {K : PySem.W.Frag} {H : Hp} {v u : V} {ds es : List PyData} {Q : VK} (h : DT K H v (.tuple ds)) (h2 : DT K H u (.tuple es)) (hl : ds.length + es.length ≤ 1000) (q : ∀ v' H', Same H H' → DT K H' v' (.tuple (ds ++ es)) → Q v' H') : rCatA K v u H Q := by
  obtain ⟨a, xs, rfl, hs, hx⟩ := h.tupOf
  obtain ⟨b, ys, rfl, hs2, hy⟩ := h2.tupOf
  refine ⟨a, b, xs, ys, rfl, rfl, hs, hs2, ?_, fun e => ?_, fun _ e => ?_, fun _ _ p np => q _ _ (same_new np) (DT.new (hx.append hy) np)⟩
  · rw [hx.length, hy.length]
    exact Nat.le_of_lt (small1000 hl)
  · subst e
    cases hx
    exact q _ _ (Same.refl H) (.tup hs2 hy)
  · subst e
    cases hy
    refine q _ _ (Same.refl H) ?_
    rw [List.append_nil]
    exact .tup hs hx
theorem atI_map {α β : Type} {xs : List α} {f : α → β} {i : Int} {v : α} (h : atI xs i = some v) : atI (xs.map f) i = some (f v) := by
  obtain ⟨j, h1, h2, h3, h4, h5⟩ := atI_get h
  unfold atI at h ⊢
  rw [List.length_map]
  cases e : ixN xs.length i with
  | none => rw [e] at h; cases h
  | some k =>
    rw [e] at h
    have h' : xs[k]? = some v := h
    show (xs.map f)[k]? = some (f v)
    rw [List.getElem?_map, h']
    rfl
theorem DTs.at {K : PySem.W.Frag} {H : Hp} {vs : List V} {ds : List PyData} {i : Int} {d : PyData} (h : DTs K H vs ds) (e : atI ds i = some d) : ∃ v, atI vs i = some v ∧ DT K H v d := by
  unfold atI at e ⊢
  rw [h.length]
  cases z : ixN ds.length i with
  | none => rw [z] at e; cases e
  | some k =>
    rw [z] at e
    have e' : ds[k]? = some d := e
    obtain ⟨v, h1, h2⟩ := h.get e'
    exact ⟨v, h1, h2⟩
theorem r_ixT {K : PySem.W.Frag} {H : Hp} {v : V} {ds : List PyData} {i : Int} {d : PyData} {Q : VK} (h : DT K H v (.tuple ds)) (e : atI ds i = some d) (q : ∀ v', DT K H v' d → Q v' H) : rIxT K v (.int i) H Q := by
  obtain ⟨a, xs, rfl, hs, hx⟩ := h.tupOf
  obtain ⟨v', h1, h2⟩ := hx.at e
  exact ⟨a, xs, i, v', rfl, rfl, hs, h1, q v' h2⟩
theorem DTs.last {K : PySem.W.Frag} {H : Hp} {vs : List V} {ds : List PyData} {d : PyData} (h : DTs K H vs (ds ++ [d])) : ∃ us u, vs = us ++ [u] ∧ DTs K H us ds ∧ DT K H u d := by
  induction ds generalizing vs with
  | nil =>
    obtain ⟨u, rfl, q⟩ := h.one
    exact ⟨[], u, rfl, .nil, q⟩
  | cons e ds ih =>
    cases h with
    | cons a b =>
      obtain ⟨us, u, rfl, q1, q2⟩ := ih b
      exact ⟨_ :: us, u, rfl, .cons a q1, q2⟩
theorem wst_last (x y w : Int) (rs : List (Sh × Int)) : ∃ L, (wst x y w rs).1 = L ++ [(wst x y w rs).1.getLastD (0, 0)] := by
  have ne : (wst x y w rs).1 ≠ [] := by
    rcases List.eq_nil_or_concat rs with rfl | ⟨r', r, rfl⟩
    · simp [wst]
    · simp [wst_snoc]
  rcases List.eq_nil_or_concat (wst x y w rs).1 with h | ⟨L, a, h⟩
  · exact absurd h ne
  · refine ⟨L, ?_⟩
    rw [List.concat_eq_append] at h
    rw [h, getLastD_snoc]
theorem wst_len (x y w : Int) (rs : List (Sh × Int)) : (wst x y w rs).1.length = rs.length + 1 := by
  rcases List.eq_nil_or_concat rs with rfl | ⟨r', r, rfl⟩
  · rfl
  · rw [List.concat_eq_append, wst_snoc, List.length_append, List.length_append, wst_len x y w r']
    rfl
termination_by rs.length
decreasing_by
  simp_all
theorem cut_last (xs : List V) (x : V) : cutV (xs ++ [x]) none (some (-1)) = xs := by
  have e1 : HT.sIx (xs ++ [x]).length 0 none = 0 := rfl
  have e2 : HT.sIx (xs ++ [x]).length (xs ++ [x]).length (some (-1)) = xs.length := by
    show (if (-1 : Int) < 0 then ((-1 : Int) + ((xs ++ [x]).length : Int)).toNat else min (-1 : Int).toNat (xs ++ [x]).length) = xs.length
    rw [if_pos (by decide), List.length_append]
    show ((-1 : Int) + ((xs.length + 1 : Nat) : Int)).toNat = xs.length
    omega
  unfold cutV
  rw [e1, e2, List.drop_zero, Nat.sub_zero, List.take_left]
theorem take_one {α : Type} {l : List α} {i : Nat} {a : α} (h : l[i]? = some a) : l.take (i + 1) = l.take i ++ [a] := by
  rw [List.take_add_one, h]
  rfl
theorem wst_take {x y w : Int} {rs : List (Sh × Int)} {i : Nat} {r : Sh × Int} (h : rs[i]? = some r) : wst x y w (rs.take (i + 1)) = ((wst x y w (rs.take i)).1 ++ [on ((wst x y w (rs.take i)).1.getLastD (0, 0)) (tn (wst x y w (rs.take i)).2 r.1)], tn (wst x y w (rs.take i)).2 r.1) := by
  rw [take_one h, wst_snoc]
theorem rails_at {K : PySem.W.Frag} {H : Hp} {vs : List V} {rs : List (Sh × Int)} {i : Nat} {v : V} (h : DTs K H vs (rs.map rail)) (e : vs[i]? = some v) : ∃ r, rs[i]? = some r ∧ ∃ a, v = .ref a ∧ SqT K H a [.str r.1.str, .int r.2] := by
  obtain ⟨d, h1, h2⟩ := h.getV e
  rw [List.getElem?_map] at h1
  cases z : rs[i]? with
  | none => rw [z] at h1; cases h1
  | some r =>
    rw [z] at h1
    cases Option.some.inj h1
    obtain ⟨a, xs, rfl, hs, hx⟩ := h2.tupOf
    obtain ⟨v1, v2, rfl, d1, d2⟩ := hx.two
    cases d1.strOf
    cases d2.intOf
    exact ⟨r, rfl, a, rfl, hs⟩
def spAbout : Sp := fun vs H Q _ => ∃ w : Int, vs = [.int w] ∧ Q (.int ((w + 2) % 4)) H
def spOnward (K : PySem.W.Frag) : Sp := fun vs H Q _ => ∃ (v : V) (p : Int × Int) (w n : Int), vs = [v, .int w, .int n] ∧ DT K H v (sq p) ∧ 0 ≤ w ∧ w ≤ 3 ∧ ∀ v' H', Same H H' → DT K H' v' (sq (p.1 + dx w * n, p.2 + dy w * n)) → Q v' H'
theorem dx_ok (w n : Int) : CMul (dx w) n := by
  left
  unfold dx
  split
  · decide
  · split <;> decide
theorem dy_ok (w n : Int) : CMul (dy w) n := by
  left
  unfold dy
  split
  · decide
  · split <;> decide
theorem on_one (p : Int × Int) (w : Int) : (p.1 + dx w * 1, p.2 + dy w * 1) = on p w := by
  unfold on
  rw [Int.mul_one, Int.mul_one]
theorem step_at {K : PySem.W.Frag} {H : Hp} {xs : List V} (h : DTs K H xs [sq (0, 1), sq (1, 0), sq (0, -1), sq (-1, 0)]) {w : Int} (w0 : 0 ≤ w) (w3 : w ≤ 3) : ∃ a, atI xs w = some (.ref a) ∧ SqT K H a [.int (dx w), .int (dy w)] := by
  have key : ∀ (v : V) (p : Int × Int), DT K H v (sq p) → ∃ a, v = .ref a ∧ SqT K H a [.int p.1, .int p.2] := fun v p hd => by
    obtain ⟨a, ys, rfl, hs, hy⟩ := hd.tupOf
    obtain ⟨v1, v2, rfl, d1, d2⟩ := hy.two
    cases d1.intOf
    cases d2.intOf
    exact ⟨a, rfl, hs⟩
  rcases way4 w0 w3 with rfl | rfl | rfl | rfl
  · obtain ⟨v, h1, h2⟩ := h.at (i := 0) (d := sq (0, 1)) rfl
    obtain ⟨a, rfl, h3⟩ := key v _ h2
    exact ⟨a, h1, h3⟩
  · obtain ⟨v, h1, h2⟩ := h.at (i := 1) (d := sq (1, 0)) rfl
    obtain ⟨a, rfl, h3⟩ := key v _ h2
    exact ⟨a, h1, h3⟩
  · obtain ⟨v, h1, h2⟩ := h.at (i := 2) (d := sq (0, -1)) rfl
    obtain ⟨a, rfl, h3⟩ := key v _ h2
    exact ⟨a, h1, h3⟩
  · obtain ⟨v, h1, h2⟩ := h.at (i := 3) (d := sq (-1, 0)) rfl
    obtain ⟨a, rfl, h3⟩ := key v _ h2
    exact ⟨a, h1, h3⟩
theorem sq_at {K : PySem.W.Frag} {H : Hp} {v : V} {p : Int × Int} (hd : DT K H v (sq p)) : ∃ a, v = .ref a ∧ SqT K H a [.int p.1, .int p.2] := by
  obtain ⟨a, ys, rfl, hs, hy⟩ := hd.tupOf
  obtain ⟨v1, v2, rfl, d1, d2⟩ := hy.two
  cases d1.intOf
  cases d2.intOf
  exact ⟨a, rfl, hs⟩
theorem eng_at {K : PySem.W.Frag} {H : Hp} {v : V} {x y w look : Int} {rs : List (Sh × Int)} (hd : DT K H v (eng x y w look rs)) : ∃ a r xs, v = .ref a ∧ SqT K H a [.int x, .int y, .int w, .int look, .ref r] ∧ SqT K H r xs ∧ DTs K H xs (rs.map rail) := by
  obtain ⟨a, ys, rfl, hs, hy⟩ := hd.tupOf
  obtain ⟨v1, v2, v3, v4, v5, rfl, d1, d2, d3, d4, d5⟩ := hy.five
  cases d1.intOf
  cases d2.intOf
  cases d3.intOf
  cases d4.intOf
  obtain ⟨r, xs, rfl, h1, h2⟩ := d5.tupOf
  exact ⟨a, r, xs, rfl, hs, h1, h2⟩
/-- a def of the text with keyword-only defaults, nothing leaves it -/
theorem FunD_ok0 {P : Program} {w : World} {K : PySem.W.Frag} {mg : Str → Option Value} {base : Heap} {x qual : Str} {params : Arguments} {body : List Stmt} {scope : Scope} {dvs : List V} {kws : List (Str × V)} {f : Addr} {fd : FuncData} {N ps : List Str} {k : Nat} {sp : Sp} (F : FunD K x qual params body scope dvs kws f fd) (S : FnScope N ps scope) (len : ∀ vs H Q E, sp vs H Q E → vs.length = ps.length)
    (hbody : ∀ (cdv : Value) (A : Around) (outer : List Env) (s : Shared) (H : Hp) (vs : List V) (Q : VK) (E : XK), Room k (A.deeper (envOfC qual scope s.heap.objs.size f cdv)) → sp vs H Q E →
      ∃ t, PSs (cxOf CX0 P w K mg base N qual scope f cdv A outer s H E).nox body t ∧ t { nx := fun _ H' => Q .non H', rt := Q } (start N vs) H) : FnOk P w K mg base CX0 (k + 1) f fd ps sp := by
  refine F.ok S len fun cdv A outer s H vs Q E hr hsp => ?_
  obtain ⟨t, h, q⟩ := hbody cdv A outer s H vs Q E hr hsp
  exact ⟨t, h.nox, q⟩
def spSAN (K : PySem.W.Frag) : Sp := fun vs H Q _ => ∃ (v : V) (x y w look : Int) (rs : List (Sh × Int)), vs = [v] ∧ DT K H v (eng x y w look rs) ∧ rs.length ≤ 900 ∧
  ∀ p xs H', Same H H' → H p = none → H' p = some (.lst xs) → DTs K H' xs ((wst x y w rs).1.map sq) → Q (.ref p) H'
def spSquares (K : PySem.W.Frag) : Sp := fun vs H Q _ => ∃ (v : V) (x y w look : Int) (rs : List (Sh × Int)), vs = [v] ∧ DT K H v (eng x y w look rs) ∧ rs.length ≤ 900 ∧
  ∀ v' H', Same H H' → DT K H' v' (.tuple ((wst x y w rs).1.dropLast.map sq)) → Q v' H'
def wantedOf (x y w look : Int) (rs : List (Sh × Int)) : Int × Int := if look = 1 then (wst x y w rs).1.getLastD (0, 0) else on (x, y) ((w + 2) % 4)
def spWanted (K : PySem.W.Frag) : Sp := fun vs H Q _ => ∃ (v : V) (x y w look : Int) (rs : List (Sh × Int)), vs = [v] ∧ DT K H v (eng x y w look rs) ∧ rs.length ≤ 900 ∧
  ∀ v' H', Same H H' → DT K H' v' (sq (wantedOf x y w look rs)) → Q v' H'
/-! ### a comprehension over two tuples -/
theorem lc_zipT {K : PySem.W.Frag} {a b : Addr} {xs ys : List V} {g : TG} {tt : TT} {te : TE} {vs : List Nat} {σ : L2.St} {H1 : Hp} {D : Addr} {Qd : Hp → Prop} (hl : xs.length = ys.length) (Pv : Nat → Hp → Prop) (h0 : Pv 0 (upd H1 D (.lst []))) (hq : ∀ i H, Pv i H → SqT K H a xs ∧ SqT K H b ys)
    (hs : ∀ (i : Nat) (x y : V) (T : Addr) (H : Hp), xs[i]? = some x → ys[i]? = some y → Pv i H → H T = none → g (.ref T) (wipe σ vs) (upd H T (.tup [x, y])) fun σ2 H2 => wipe σ2 vs = wipe σ vs ∧ tt σ2 H2 fun b H3 =>
      if b = true then te σ2 H3 fun y H4 => ∃ acc, H4 D = some (.lst acc) ∧ acc.length < sizeLine ∧ Pv (i + 1) (upd H4 D (.lst (acc ++ [y]))) else Pv (i + 1) H3) (hd : ∀ H, Pv xs.length H → Qd H) :
    ∃ W : Nat → Nat → Hp → Prop, (∃ m, W 0 m (upd H1 D (.lst []))) ∧ ∀ i m H, W i m H →
      ((RZ.ItzT K a b).stop i H ∧ Qd H) ∨ ((RZ.ItzT K a b).go i H ∧ ∃ Nx : Hp → Prop, (∀ H', Nx H' → ∃ m', m' < m ∧ W (i + 1) m' H') ∧ ∀ x H', (RZ.ItzT K a b).yld i H x H' → g x (wipe σ vs) H' fun σ2 H2 => wipe σ2 vs = wipe σ vs ∧ tt σ2 H2 fun b H3 =>
        if b = true then te σ2 H3 fun y H4 => ∃ acc, H4 D = some (.lst acc) ∧ acc.length < sizeLine ∧ Nx (upd H4 D (.lst (acc ++ [y]))) else Nx H3) := by
  refine ⟨fun i m H => m = xs.length - i ∧ i ≤ xs.length ∧ Pv i H, ⟨xs.length, rfl, Nat.zero_le _, h0⟩, ?_⟩
  rintro i m H ⟨rfl, hi, p⟩
  obtain ⟨q1, q2⟩ := hq i H p
  by_cases hlt : i < xs.length
  · have hlt2 : i < ys.length := hl ▸ hlt
    refine .inr ⟨⟨xs, ys, xs[i], ys[i], q1, q2, by simp [hlt], by simp [hlt2]⟩, Pv (i + 1), fun H' p' => ⟨xs.length - (i + 1), by omega, rfl, hlt, p'⟩, fun x H' y => ?_⟩
    obtain ⟨T, x1, y1, rfl, nT, rfl, f1, f2⟩ := y
    exact hs i x1 y1 T H (f1 _ q1) (f2 _ q2) p nT
  · have e : i = xs.length := by omega
    subst e
    exact .inl ⟨⟨xs, ys, q1, q2, .inl (Nat.le_refl _)⟩, hd H p⟩
/-! ### what a datum's type is -/
def tyN : PyData → String
  | .none => "NoneType"
  | .bool _ => "bool"
  | .int _ => "int"
  | .str _ => "str"
  | .list _ => "list"
  | .tuple _ => "tuple"
  | .dict _ => "dict"
theorem DT.ty {K : PySem.W.Frag} {H : Hp} {v : V} {d : PyData} (h : DT K H v d) : TyX K H v (.type (tyN d)) := by
  cases h with
  | non => exact .base .non
  | bl b => exact .base (.bl b)
  | int i => exact .base (.int i)
  | str x => exact .base (.str x)
  | tup hs ha =>
    rcases hs with (hs | ⟨o, hs⟩) | ⟨o, its, n, hk, hc, _⟩
    · exact .base (.tup hs)
    · exact .fTuple hs
    · exact .kTuple hk hc
def isT : PyData → Bool
  | .tuple _ => true
  | _ => false
def isB : PyData → Bool
  | .bool _ => true
  | _ => false
def isS : PyData → Bool
  | .str _ => true
  | _ => false
theorem kT {K : PySem.W.Frag} {H : Hp} {v : V} {d : PyData} (h : DT K H v d) : PySem.W.kitOne K (.type (tyN d)) (.type "tuple") = some (isT d) := by
  cases h with
  | non => exact kit_ty (a := "NoneType") (r := false) (by decide +kernel)
  | bl _ => exact kit_ty (a := "bool") (r := false) (by decide +kernel)
  | int _ => exact kit_ty (a := "int") (r := false) (by decide +kernel)
  | str _ => exact kit_ty (a := "str") (r := false) (by decide +kernel)
  | tup _ _ => exact kit_ty (a := "tuple") (r := true) (by decide +kernel)
theorem kL {K : PySem.W.Frag} {H : Hp} {v : V} {d : PyData} (h : DT K H v d) : PySem.W.kitOne K (.type (tyN d)) (.type "list") = some false := by
  cases h with
  | non => exact kit_ty (a := "NoneType") (r := false) (by decide +kernel)
  | bl _ => exact kit_ty (a := "bool") (r := false) (by decide +kernel)
  | int _ => exact kit_ty (a := "int") (r := false) (by decide +kernel)
  | str _ => exact kit_ty (a := "str") (r := false) (by decide +kernel)
  | tup _ _ => exact kit_ty (a := "tuple") (r := false) (by decide +kernel)
theorem kD {K : PySem.W.Frag} {H : Hp} {v : V} {d : PyData} (h : DT K H v d) : PySem.W.kitOne K (.type (tyN d)) (.type "dict") = some false := by
  cases h with
  | non => exact kit_ty (a := "NoneType") (r := false) (by decide +kernel)
  | bl _ => exact kit_ty (a := "bool") (r := false) (by decide +kernel)
  | int _ => exact kit_ty (a := "int") (r := false) (by decide +kernel)
  | str _ => exact kit_ty (a := "str") (r := false) (by decide +kernel)
  | tup _ _ => exact kit_ty (a := "tuple") (r := false) (by decide +kernel)
theorem kB {K : PySem.W.Frag} {H : Hp} {v : V} {d : PyData} (h : DT K H v d) : PySem.W.kitOne K (.type (tyN d)) (.type "bool") = some (isB d) := by
  cases h with
  | non => exact kit_ty (a := "NoneType") (r := false) (by decide +kernel)
  | bl _ => exact kit_ty (a := "bool") (r := true) (by decide +kernel)
  | int _ => exact kit_ty (a := "int") (r := false) (by decide +kernel)
  | str _ => exact kit_ty (a := "str") (r := false) (by decide +kernel)
  | tup _ _ => exact kit_ty (a := "tuple") (r := false) (by decide +kernel)
theorem kS {K : PySem.W.Frag} {H : Hp} {v : V} {d : PyData} (h : DT K H v d) : PySem.W.kitOne K (.type (tyN d)) (.type "str") = some (isS d) := by
  cases h with
  | non => exact kit_ty (a := "NoneType") (r := false) (by decide +kernel)
  | bl _ => exact kit_ty (a := "bool") (r := false) (by decide +kernel)
  | int _ => exact kit_ty (a := "int") (r := false) (by decide +kernel)
  | str _ => exact kit_ty (a := "str") (r := true) (by decide +kernel)
  | tup _ _ => exact kit_ty (a := "tuple") (r := false) (by decide +kernel)
theorem kTL {K : PySem.W.Frag} {H : Hp} {v : V} {d : PyData} (h : DT K H v d) : PySem.W.kitAny K (.type (tyN d)) [.type "tuple", .type "list"] = some (isT d) :=
  kitAny_cons (kT h) (fun e => by rw [e]; exact kitAny_cons (kL h) (fun _ => kitAny_nil) (fun z => by cases z)) (fun e => e)
theorem kTLD {K : PySem.W.Frag} {H : Hp} {v : V} {d : PyData} (h : DT K H v d) : PySem.W.kitAny K (.type (tyN d)) [.type "tuple", .type "list", .type "dict"] = some (isT d) :=
  kitAny_cons (kT h) (fun e => by rw [e]; exact kitAny_cons (kL h) (fun _ => kitAny_cons (kD h) (fun _ => kitAny_nil) (fun z => by cases z)) (fun z => by cases z)) (fun e => e)
theorem iteEq {α : Type} [DecidableEq α] {x y : α} {A B : Prop} (h : x = y) (k : A) : if decide (x = y) = true then A else B := by
  rw [decide_eq_true h]
  exact iteT k
mutual
def okD : PyData → Bool
  | .none => true
  | .bool _ => true
  | .int _ => true
  | .str x => PyData.strOk x
  | .tuple ds => decide (ds.length ≤ 1000) && okAll ds
  | .list _ => false
  | .dict _ => false
def okAll : List PyData → Bool
  | [] => true
  | d :: ds => okD d && okAll ds
end
mutual
theorem lay_ok : ∀ d : PyData, okD d = true → d.canLay0 = true
  | .none, _ => rfl
  | .bool _, _ => rfl
  | .int _, _ => rfl
  | .str x, h => by
    rw [okD] at h
    rw [PyData.canLay0]
    exact h
  | .tuple ds, h => by
    rw [okD, Bool.and_eq_true] at h
    rw [PyData.canLay0]
    exact lay_oks ds h.2
  | .list _, h => by rw [okD] at h; cases h
  | .dict _, h => by rw [okD] at h; cases h
theorem lay_oks : ∀ ds : List PyData, okAll ds = true → PyData.canLayAll0 ds = true
  | [], _ => rfl
  | d :: ds, h => by
    rw [okAll, Bool.and_eq_true] at h
    rw [PyData.canLayAll0, lay_ok d h.1, lay_oks ds h.2]
    rfl
end
theorem okAll_get : ∀ {ds : List PyData} {i : Nat} {d : PyData}, okAll ds = true → ds[i]? = some d → okD d = true
  | [], _, _, _, e => by simp at e
  | x :: ds, 0, d, h, e => by
    rw [okAll, Bool.and_eq_true] at h
    simp at e
    rw [← e]
    exact h.1
  | x :: ds, i + 1, d, h, e => by
    rw [okAll, Bool.and_eq_true] at h
    exact okAll_get (i := i) h.2 (by simpa using e)
theorem dep_get : ∀ {ds : List PyData} {i : Nat} {d : PyData}, ds[i]? = some d → d.depth ≤ PyData.depthAll ds
  | [], _, _, e => by simp at e
  | x :: ds, 0, d, e => by
    simp at e
    rw [PyData.depthAll, ← e]
    exact Nat.le_max_left _ _
  | x :: ds, i + 1, d, e => by
    have h := dep_get (ds := ds) (i := i) (d := d) (by simpa using e)
    rw [PyData.depthAll]
    exact Nat.le_trans h (Nat.le_max_right _ _)
def spAlike (K : PySem.W.Frag) (n : Nat) : Sp := fun vs H Q _ => ∃ (v u : V) (d : PyData), vs = [v, u] ∧ DT K H v d ∧ DT K H u d ∧ okD d = true ∧ d.depth ≤ n ∧ (∀ H', Same H H' → Q (.bl true) H')
theorem tk_setD {H : Hp} {b : Addr} {kvs : List (Key × V)} {o : HO} (hb : H b = some (.dK kvs)) : Tk H (upd H b o) := fun a ys h => by
  have n : a ≠ b := fun z => by
    subst z
    rcases h with h | ⟨u, h⟩
    · rw [hb] at h
      cases h
    · rw [hb] at h
      cases h
  rcases h with h | ⟨u, h⟩
  · exact .inl (by rw [upd_ne n]; exact h)
  · exact .inr ⟨u, by rw [upd_ne n]; exact h⟩
def spDue (K : PySem.W.Frag) : Sp := fun vs H Q _ => ∃ (v : V) (x y w look : Int) (rs : List (Sh × Int)), vs = [v] ∧ DT K H v (eng x y w look rs) ∧ 0 ≤ w ∧ w ≤ 3 ∧ rs.length ≤ 900 ∧
  ∀ v' H', Same H H' → DT K H' v' (.tuple [.tuple ((wst x y w rs).1.dropLast.map sq), sq (wantedOf x y w look rs)]) → Q v' H'
theorem okAll_map {α : Type} (f : α → PyData) (h : ∀ a, okD (f a) = true) : ∀ l : List α, okAll (l.map f) = true
  | [] => rfl
  | a :: l => by
    rw [List.map_cons, okAll, h a, okAll_map f h l]
    rfl
theorem ok_sq (p : Int × Int) : okD (sq p) = true := by
  simp [sq, okD, okAll]
theorem ok_sqs (l : List (Int × Int)) (h : l.length ≤ 1000) : okD (.tuple (l.map sq)) = true := by
  rw [okD, okAll_map sq ok_sq, List.length_map, decide_eq_true h]
  rfl
theorem depT_sqs (l : List (Int × Int)) : (PyData.tuple (l.map sq)).depth ≤ 4 := by
  have h := dep_sqs l
  rw [PyData.depth]
  omega
theorem dep_sq (p : Int × Int) : (sq p).depth = 1 := by
  simp [sq, PyData.depth, PyData.depthAll]
theorem lawRange {n : Nat} (k : Int) (h2 : 2 ≤ k) (h9 : k ≤ 60) : 0 ≤ (if (if ((n : Int)) < k then ((n : Int)) else k) > 2 then (if ((n : Int)) < k then ((n : Int)) else k) else 2) ∧ (if (if ((n : Int)) < k then ((n : Int)) else k) > 2 then (if ((n : Int)) < k then ((n : Int)) else k) else 2) ≤ 60 := by
  split <;> split <;> omega
def spLaw (K : PySem.W.Frag) : Sp := fun vs H Q _ => ∃ (a : Addr) (ns : List Int), vs = [.ref a] ∧ SqL K H a (ns.map V.int) ∧ ns.length ≤ 63 ∧ ∀ H', Q (.bl true) H'
theorem SqL_but {K : PySem.W.Frag} {H H1 H2 : Hp} {a b : Addr} {xs : List V} (h : SqL K H a xs) (nb : H b = none) (e1 : Same H H1) (e2 : But b H1 H2) : SqL K H2 a xs := by
  rcases h with (h | ⟨o, h⟩) | h
  · exact .inl (.inl (e2 _ _ (ne_of_none h nb) (e1 _ _ h)))
  · exact .inl (.inr ⟨o, e2 _ _ (ne_of_none h nb) (e1 _ _ h)⟩)
  · exact .inr h
theorem Box.same {H H' : Hp} {b : Addr} (h : Box H b) (e : Same H H') : Box H' b := by
  obtain ⟨i, s, c, h⟩ := h
  exact ⟨i, s, c, e _ _ h⟩
theorem eng_cut (x y w look : Int) (rs : List (Sh × Int)) : cutD [.int x, .int y, .int w, .int look, .tuple (rs.map rail)] none (some 3) = [.int x, .int y, .int w] := rfl
/-! ### readings, step by step -/
section
variable {K : PySem.W.Frag} {σ : L2.St} {H : Hp} {Q : VK} {ta tb : TE} {r : R2} {v : V}
theorem r_c (k : Q v H) : tC v σ H Q := k
theorem r_v {i : Nat} (h : σ[i]? = some (some v)) (k : Q v H) : tVar i σ H Q := ⟨v, h, k⟩
theorem r_op (k : ta σ H fun x H1 => tb σ H1 fun y H2 => r x y H2 Q) : tOp r ta tb σ H Q := k
theorem r_tup {t : TA} (k : t σ H fun xs H1 => xs.length ≤ sizeLine ∧ ∀ p, H1 p = none → Q (.ref p) (upd H1 p (.tup xs))) : tTup t σ H Q := k
theorem r_lst {t : TA} (k : t σ H fun xs H1 => xs.length ≤ sizeLine ∧ ∀ p, H1 p = none → Q (.ref p) (upd H1 p (.lst xs))) : tLst t σ H Q := k
theorem r_cons {tr : TA} {Q : List V → Hp → Prop} (k : ta σ H fun x H1 => tr σ H1 fun xs H2 => Q (x :: xs) H2) : tCons ta tr σ H Q := k
theorem r_nil {Q : List V → Hp → Prop} (k : Q [] H) : tNil σ H Q := k
theorem r_call {sp : Sp} {dvs : List V} {E : XK} {t : TA} (k : t σ H fun vs H1 => sp (vs ++ dvs) H1 Q E) : tCall sp dvs E t σ H Q := k
theorem r_I0 {g : Int → Int → V} {i j : Int} (k : Q (g i j) H) : rI0 g (.int i) (.int j) H Q := ⟨i, j, rfl, rfl, k⟩
theorem r_I {C : Int → Int → Prop} {g : Int → Int → V} {i j : Int} (c : C i j) (k : Q (g i j) H) : rI C g (.int i) (.int j) H Q := ⟨i, j, rfl, rfl, c, k⟩
theorem r_ixTV {j : Nat} {ds : List PyData} {i : Int} {d : PyData} (hv : σ[j]? = some (some v)) (h : DT K H v (.tuple ds)) (e : atI ds i = some d) (q : ∀ v', DT K H v' d → Q v' H) : tOp (rIxT K) (tVar j) (tC (.int i)) σ H Q := ⟨v, hv, r_ixT h e q⟩
end
/-! ### what an expression comes to, whatever was laid meanwhile -/
def EvD (K : PySem.W.Frag) (te : TE) (σ : L2.St) (H : Hp) (d : PyData) : Prop := ∀ H1, Same H H1 → ∀ Q : VK, (∀ v H2, Same H1 H2 → DT K H2 v d → Q v H2) → te σ H1 Q
def EvI (te : TE) (σ : L2.St) (i : Int) : Prop := ∀ (H : Hp) (Q : VK), Q (.int i) H → te σ H Q
section
variable {K : PySem.W.Frag} {σ : L2.St} {H : Hp} {ta tb : TE} {a b : Int}
theorem evi_v {i : Nat} (h : σ[i]? = some (some (.int a))) : EvI (tVar i) σ a := fun H Q q => ⟨_, h, q⟩
theorem evi_c : EvI (tC (.int a)) σ a := fun H Q q => q
theorem evi_0 {g : Int → Int → Int} (h1 : EvI ta σ a) (h2 : EvI tb σ b) : EvI (tOp (rI0 fun i j => .int (g i j)) ta tb) σ (g a b) := fun H Q q => h1 H _ (h2 H _ ⟨a, b, rfl, rfl, q⟩)
theorem evd_i (h : EvI ta σ a) : EvD K ta σ H (.int a) := fun H1 _ Q q => h H1 Q (q _ _ (Same.refl _) (.int a))
theorem evd_2 (h1 : EvI ta σ a) (h2 : EvI tb σ b) : EvD K (tTup (tCons ta (tCons tb tNil))) σ H (.tuple [.int a, .int b]) := fun H1 _ Q q =>
  h1 H1 _ (h2 H1 _ ⟨by show 2 ≤ sizeLine; decide, fun p np => q _ _ (same_new np) (DT.new (.cons (.int a) (.cons (.int b) .nil)) np)⟩)
def pick4D (w : Int) (d0 d1 d2 d3 : PyData) : PyData := if w = 0 then d0 else if w = 1 then d1 else if w = 2 then d2 else d3
theorem r_disp4 {t0 t1 t2 t3 : TE} {d0 d1 d2 d3 : PyData} {j : Nat} {w : Int} {Q : VK} (e0 : EvD K t0 σ H d0) (e1 : EvD K t1 σ H d1) (e2 : EvD K t2 σ H d2) (e3 : EvD K t3 σ H d3) (hk : σ[j]? = some (some (.int w))) (w0 : 0 ≤ w) (w3 : w ≤ 3)
    (q : ∀ v H', Same H H' → DT K H' v (pick4D w d0 d1 d2 d3) → Q v H') : tDGet (tDisp [(tC (.int 0), t0), (tC (.int 1), t1), (tC (.int 2), t2), (tC (.int 3), t3)]) (tVar j) σ H Q := by
  intro p np
  have s0 : Same H (upd H p (.dK [])) := same_new np
  refine e0 _ s0 _ fun v0 H1 s1 x0 => ?_
  refine e1 _ (s0.trans s1) _ fun v1 H2 s2 x1 => ?_
  refine e2 _ ((s0.trans s1).trans s2) _ fun v2 H3 s3 x2 => ?_
  refine e3 _ (((s0.trans s1).trans s2).trans s3) _ fun v3 H4 s4 x3 => ?_
  have s14 := ((s1.trans s2).trans s3).trans s4
  have hp : H4 p = some (.dK []) := s14 _ _ upd_same
  refine ⟨hp, [(Sum.inl 0, v0), (Sum.inl 1, v1), (Sum.inl 2, v2), (Sum.inl 3, v3)], rfl, by show 4 ≤ 15; decide, ?_⟩
  have tk := tk_setD (o := HO.dK (mergeK [] [(Sum.inl 0, v0), (Sum.inl 1, v1), (Sum.inl 2, v2), (Sum.inl 3, v3)])) hp
  have sH : Same H (upd H4 p (HO.dK (mergeK [] [(Sum.inl 0, v0), (Sum.inl 1, v1), (Sum.inl 2, v2), (Sum.inl 3, v3)]))) := fun c o h => by
    rw [upd_ne (ne_of_none h np)]
    exact s14 _ _ (s0 _ _ h)
  rcases way4 w0 w3 with rfl | rfl | rfl | rfl
  · exact ⟨.int 0, hk, p, v0, rfl, .inl ⟨_, Sum.inl 0, .inl upd_same, rfl, rfl⟩, q _ _ sH (x0.up (((tk_same s2).trans ((tk_same s3).trans (tk_same s4))).trans tk))⟩
  · exact ⟨.int 1, hk, p, v1, rfl, .inl ⟨_, Sum.inl 1, .inl upd_same, rfl, rfl⟩, q _ _ sH (x1.up (((tk_same s3).trans (tk_same s4)).trans tk))⟩
  · exact ⟨.int 2, hk, p, v2, rfl, .inl ⟨_, Sum.inl 2, .inl upd_same, rfl, rfl⟩, q _ _ sH (x2.up ((tk_same s4).trans tk))⟩
  · exact ⟨.int 3, hk, p, v3, rfl, .inl ⟨_, Sum.inl 3, .inl upd_same, rfl, rfl⟩, q _ _ sH (x3.up tk)⟩
end
/-! ### calls by names alone -/
section
variable {X : Cx} {k : Nat} {f : Addr} {fd : FuncData} {ps ks : List Str} {sp : Sp} {E : XK} {x : Str} {p pos : Pos} {kws : List Keyword} {tk : TA} {g : List Value → List Value → List Value} {gV : List V → List V → List V}
theorem pe_kw0 (F : FnOk X.prog X.w X.K X.mg X.base CX0 k f fd ps sp) (room : Room k X.A) (gl : Gl X x) (at_ : X.mg x = some (.ref f)) (kp : PySem.W.keepIn X.K (.ref f) = true) (kb : KBn X.K fd ps 0 ks g gV) (out : Passes CX0 X E) (kw : PK X kws tk)
    (all_ : (backToKw pos (keywordEach kws X.env)).all (·.1.isSome) = true := by rfl) (names : (backToKw pos (keywordEach kws X.env)).filterMap (·.1) = ks := by rfl) (nodb : (x == ("__debug__" : Str)) = false := by decide)
    (plain : ((backTo pos (starEach [] X.env)).any (·.1) || (backToKw pos (keywordEach kws X.env)).any (·.1.isNone)) = false := by rfl) : PE X (.Call (.Name x p) [] kws pos) (tCallN 0 ks.length sp gV E tNil tk) :=
  ⟨fun pins s σ H Q I h => wpAny_Call_Name_kw (ld_glob I gl at_ (PySem.W.callWith_KW0 (h₀ := X.base) I.ok.mod.kin kp all_ (thn (kw.run pos pins s σ H _ I h) fun ws s2 ⟨zs, H2, I2, rz, l1, l2, q2⟩ => ⟨I2.kIn, by
    rw [names]
    exact run_fnN (us := []) (vs := []) F room kb out I2 .nil rz rfl l2 q2⟩) plain) nodb)⟩
end
def swap2 {α : Type} : List α → List α
  | [a, b] => [b, a]
  | l => l
theorem vals_swap2 {zs : List V} {ws : List Value} (r : Vals zs ws) : Vals (swap2 zs) (swap2 ws) := by
  cases r with
  | nil => exact .nil
  | cons a t => cases t with
    | nil => exact .cons a .nil
    | cons b t => cases t with
      | nil => exact .cons b (.cons a .nil)
      | cons c t => exact .cons a (.cons b (.cons c t))
theorem script_keep {K : PySem.W.Frag} {H0 : Hp} {a b : Addr} {xs : List V} (h : SqL K H0 a xs) (nb : H0 b = none) : ∀ H1 H2 : Hp, But b H1 H2 → SqL K H1 a xs → SqL K H2 a xs := fun H1 H2 e h1 => by
  rcases h with (h | ⟨o, h⟩) | h
  · rcases h1 with (h1 | ⟨o1, h1⟩) | h1
    · exact .inl (.inl (e _ _ (ne_of_none h nb) h1))
    · exact .inl (.inr ⟨o1, e _ _ (ne_of_none h nb) h1⟩)
    · exact .inr h1
  · rcases h1 with (h1 | ⟨o1, h1⟩) | h1
    · exact .inl (.inl (e _ _ (ne_of_none h nb) h1))
    · exact .inl (.inr ⟨o1, e _ _ (ne_of_none h nb) h1⟩)
    · exact .inr h1
  · exact .inr h
/-- a loop over a written text's signs -/
theorem for_str {x : Str} {g : TG} {tb : TS} {D : Ends} {σ : L2.St} {H : Hp} (Pv : Nat → L2.St → Hp → Prop) (h0 : Pv 0 σ H)
    (hs : ∀ i c σ H, x.cps[i]? = some c → Pv i σ H → g (.str ⟨#[c]⟩) σ H fun σ2 H2 => tb { D with nx := Pv (i + 1), ct := Pv (i + 1), bk := D.nx } σ2 H2) (hd : ∀ σ H, Pv x.cps.size σ H → D.nx σ H) :
    ∃ W : Nat → Nat → L2.St → Hp → Prop, (∃ m, W 0 m σ H) ∧ ∀ i m σ H, W i m σ H →
      ((Its x).stop i H ∧ D.nx σ H) ∨ ((Its x).go i H ∧ ∃ N : L2.St → Hp → Prop, (∀ σ' H', N σ' H' → ∃ m', m' < m ∧ W (i + 1) m' σ' H') ∧ ∀ v H', (Its x).yld i H v H' → g v σ H' fun σ2 H2 => tb { D with nx := N, ct := N, bk := D.nx } σ2 H2) := by
  refine ⟨fun i m σ H => m = x.cps.size - i ∧ i ≤ x.cps.size ∧ Pv i σ H, ⟨x.cps.size, by simp, Nat.zero_le _, h0⟩, ?_⟩
  rintro i m σ H ⟨rfl, hi, p⟩
  by_cases hlt : i < x.cps.size
  · refine .inr ⟨hlt, Pv (i + 1), fun σ' H' p' => ⟨x.cps.size - (i + 1), by omega, rfl, hlt, p'⟩, fun v H' y => ?_⟩
    obtain ⟨e1, c, hc, e2⟩ := y
    subst e1 e2
    exact hs i c σ H' hc p
  · have e : i = x.cps.size := by omega
    subst e
    exact .inl ⟨Nat.le_refl _, hd σ H p⟩
theorem small12 {n : Nat} (h : n ≤ 12) : n < sizeLine := Nat.lt_of_le_of_lt h (by decide)
end OR

namespace K02
open PySem PySem.Spec PyProof.Rows L2 OR
def topS (i : Nat) : Stmt := PySem.Challenge.pw_ownrail_k02_ways_and_steps.main.body.getD i (.Pass ⟨0, 0, 0, 0⟩)
abbrev s_way_on : Stmt := topS 3
abbrev N_way_on : List Str := ["way", "shape"]
theorem sc_way_on : FnScope N_way_on ["way", "shape"] (defScope s_way_on) := ⟨rfl, rfl, rfl, by decide +kernel, rfl, by decide +kernel, by decide +kernel⟩
abbrev s_way_behind : Stmt := topS 4
abbrev N_way_behind : List Str := ["way", "shape"]
theorem sc_way_behind : FnScope N_way_behind ["way", "shape"] (defScope s_way_behind) := ⟨rfl, rfl, rfl, by decide +kernel, rfl, by decide +kernel, by decide +kernel⟩
abbrev s_onward : Stmt := topS 5
abbrev N_onward : List Str := ["square", "way", "steps", "x", "y", "dx", "dy"]
theorem sc_onward : FnScope N_onward ["square", "way", "steps"] (defScope s_onward) := ⟨rfl, rfl, rfl, by decide +kernel, rfl, by decide +kernel, by decide +kernel⟩
abbrev s__law_box : Stmt := topS 7
abbrev N__law_box : List Str := ["_law_script", "_law_k", "_law_cell", "_law_seed"]
theorem sc__law_box : FnScope N__law_box ["_law_script", "_law_k"] (defScope s__law_box) := ⟨rfl, rfl, rfl, by decide +kernel, rfl, by decide +kernel, by decide +kernel⟩
abbrev s__law_take : Stmt := topS 8
abbrev N__law_take : List Str := ["_law_box_here", "_law_many", "_law_digit", "_law_one"]
theorem sc__law_take : FnScope N__law_take ["_law_box_here", "_law_many"] (defScope s__law_take) := ⟨rfl, rfl, rfl, by decide +kernel, rfl, by decide +kernel, by decide +kernel⟩
abbrev s__law_compass : Stmt := topS 9
abbrev N__law_compass : List Str := ["_law_here", "_law_form", "_law_rose"]
theorem sc__law_compass : FnScope N__law_compass ["_law_here", "_law_form"] (defScope s__law_compass) := ⟨rfl, rfl, rfl, by decide +kernel, rfl, by decide +kernel, by decide +kernel⟩
abbrev s__law_right : Stmt := topS 10
abbrev N__law_right : List Str := ["_law_spot", "_law_here", "_law_far", "_law_x", "_law_y", "_law_due", "_law_found", "_law_one"]
theorem sc__law_right : FnScope N__law_right ["_law_spot", "_law_here", "_law_far"] (defScope s__law_right) := ⟨rfl, rfl, rfl, by decide +kernel, rfl, by decide +kernel, by decide +kernel⟩
abbrev s_law : Stmt := topS 11
abbrev N_law : List Str := ["_law_script", "_law_k", "_law_box_here", "_law_wide", "_law_spot", "_law_here", "_law_form", "_law_due"]
theorem sc_law : FnScope N_law ["_law_script"] (defScope s_law) := ⟨rfl, rfl, rfl, by decide +kernel, rfl, by decide +kernel, by decide +kernel⟩
structure Txt (K : PySem.W.Frag) (w : World) (mg : Str → Option Value) where
  f_way_on : Addr
  fd_way_on : FuncData
  F_way_on : Fun K "way_on" "way_on" s_way_on f_way_on fd_way_on
  b_way_on : Binds K fd_way_on ["way", "shape"] []
  g_way_on : mg "way_on" = some (.ref f_way_on)
  f_way_behind : Addr
  fd_way_behind : FuncData
  F_way_behind : Fun K "way_behind" "way_behind" s_way_behind f_way_behind fd_way_behind
  b_way_behind : Binds K fd_way_behind ["way", "shape"] []
  g_way_behind : mg "way_behind" = some (.ref f_way_behind)
  f__law_box : Addr
  fd__law_box : FuncData
  F__law_box : Fun K "_law_box" "_law_box" s__law_box f__law_box fd__law_box
  b__law_box : Binds K fd__law_box ["_law_script", "_law_k"] []
  g__law_box : mg "_law_box" = some (.ref f__law_box)
  f__law_take : Addr
  fd__law_take : FuncData
  F__law_take : Fun K "_law_take" "_law_take" s__law_take f__law_take fd__law_take
  b__law_take : Binds K fd__law_take ["_law_box_here", "_law_many"] []
  g__law_take : mg "_law_take" = some (.ref f__law_take)
  f__law_compass : Addr
  fd__law_compass : FuncData
  F__law_compass : Fun K "_law_compass" "_law_compass" s__law_compass f__law_compass fd__law_compass
  b__law_compass : Binds K fd__law_compass ["_law_here", "_law_form"] []
  g__law_compass : mg "_law_compass" = some (.ref f__law_compass)
  f__law_right : Addr
  fd__law_right : FuncData
  F__law_right : Fun K "_law_right" "_law_right" s__law_right f__law_right fd__law_right
  b__law_right : Binds K fd__law_right ["_law_spot", "_law_here", "_law_far"] []
  g__law_right : mg "_law_right" = some (.ref f__law_right)
  m_int : mg "int" = none
  m_isinstance : mg "isinstance" = none
  m_len : mg "len" = none
  m_max : mg "max" = none
  m_min : mg "min" = none
  m_range : mg "range" = none
  m_repr : mg "repr" = none
  m_tuple : mg "tuple" = none
  kb_way_on : KBn K fd_way_on ["way", "shape"] 0 ["shape", "way"] (fun _ ws => swap2 ws) (fun _ zs => swap2 zs)
  kb_way_behind : KBn K fd_way_behind ["way", "shape"] 0 ["shape", "way"] (fun _ ws => swap2 ws) (fun _ zs => swap2 zs)
  a_TURNS : Addr
  g_TURNS : mg "TURNS" = some (.ref a_TURNS)
  TURNS : ∀ s : Sh, KDct K w a_TURNS s.str (.int s.t)
  a_STEPS : Addr
  g_STEPS : mg "STEPS" = some (.ref a_STEPS)
  STEPS : ∀ H, DT K H (.ref a_STEPS) (.tuple [sq (0, 1), sq (1, 0), sq (0, -1), sq (-1, 0)])
  f_onward : Addr
  fd_onward : FuncData
  F_onward : FunD K "onward" "onward" (defArgs s_onward) (defBody s_onward) (defScope s_onward) [] [("steps", .int 1)] f_onward fd_onward
  g_onward : mg "onward" = some (.ref f_onward)
  mv1_onward : List Value
  kb1_onward : KBn K fd_onward ["square", "way", "steps"] 2 ["steps"] (fun us ws => us ++ ws) (fun vs zs => vs ++ zs)
  mv2_onward : List Value
  kb2_onward : KBn K fd_onward ["square", "way", "steps"] 0 ["way", "square"] (fun _ ws => swap2 ws ++ mv2_onward) (fun _ zs => swap2 zs ++ [.int 1])
/-! ### the law's draws -/
section
variable {P : Program} {w : World} {K : PySem.W.Frag} {mg : Str → Option Value} {base : Heap}
theorem ok__law_take (T : Txt K w mg) : FnOk P w K mg base CX0 1 T.f__law_take T.fd__law_take ["_law_box_here", "_law_many"] spTake := by
  refine T.F__law_take.ok sc__law_take (fun vs H Q E h => ?_) (fun cdv A outer s H vs Q E hr h => ?_)
  · obtain ⟨b, m, rfl, _⟩ := h
    rfl
  · obtain ⟨b, m, rfl, ⟨i, s, c, hb⟩, hm, hm2, q⟩ := h
    refine ⟨_, (pss_cons (ps_if (pt_cmpR op_gt (pe_ix ix_list (pv 0) pe_int (fun _ _ => rfl)) pe_int (nomark _))
 (pss_cons (ps_set (i := 2) sc__law_take.nd rfl (.inl rfl) (pe_op op_mod (pe_ix ix_list (pv 0) pe_int (fun _ _ => rfl)) (pv 1)))
 (pss_cons (ps_asg (pe_op op_fdivW (pe_ix ix_list (pv 0) pe_int (fun _ _ => rfl)) (pv 1)) (pg_sub (pv 0) pe_int set_list))
 (pss_one (ps_ret (pv 2)))))
 pss_nil)
 (pss_cons (ps_asg (pe_op op_add (pe_ix ix_list (pv 0) pe_int (fun _ _ => rfl)) pe_int) (pg_sub (pv 0) pe_int set_list))
 (pss_cons (ps_set (i := 3) sc__law_take.nd rfl (.inl rfl) (pe_op op_mod (pe_op op_mul (pe_op op_add (pe_ix ix_list (pv 0) pe_int (fun _ _ => rfl)) (pe_op op_mul pe_int (pe_ix ix_list (pv 0) pe_int (fun _ _ => rfl)))) pe_int) pe_int))
 (pss_cons (ps_asg (pe_op op_add (pe_op op_mod (pe_op op_add (pe_op op_mul (pv 3) pe_int) pe_int) pe_int) pe_int) (pg_sub (pv 0) pe_int set_list))
 (pss_one (ps_ret (pe_op op_mod (pe_op op_fdivW (pe_op op_add (pe_op op_mul (pv 3) pe_int) (pe_ix ix_list (pv 0) pe_int (fun _ _ => rfl))) pe_int) (pv 1)))))))), ?_⟩
    refine ⟨.ref b, rfl, b, _, 0, .int i, rfl, rfl, SqL.of hb, rfl, i, 0, rfl, rfl, _, rfl, ite2 (fun _ => ?_) (fun _ => ?_)⟩
    · refine ⟨.ref b, rfl, b, _, 0, .int i, rfl, rfl, SqL.of hb, rfl, .int m, rfl, i, m, rfl, rfl, hm, ?_⟩
      refine ⟨.ref b, rfl, b, _, 0, .int i, rfl, rfl, SqL.of hb, rfl, .int m, rfl, i, m, rfl, rfl, div_ok hm hm2, ?_⟩
      refine ⟨.ref b, rfl, b, _, 0, 0, rfl, rfl, hb, rfl, ?_⟩
      exact ⟨.int (i % m), rfl, q _ _ (mod_in hm).1 (mod_in hm).2 but_set ⟨_, _, _, upd_same⟩⟩
    · refine ⟨.ref b, rfl, b, _, 2, .int c, rfl, rfl, SqL.of hb, rfl, c, 1, rfl, rfl, ?_⟩
      refine ⟨.ref b, rfl, b, _, 2, 2, rfl, rfl, hb, rfl, ?_⟩
      have h1 : (upd H b (.lst [.int i, .int s, .int (c + 1)])) b = some (.lst [.int i, .int s, .int (c + 1)]) := upd_same
      refine ⟨.ref b, rfl, b, _, 1, .int s, rfl, rfl, SqL.of h1, rfl, .ref b, rfl, b, _, 2, .int (c + 1), rfl, rfl, SqL.of h1, rfl, 104729, c + 1, rfl, rfl, .inl ⟨by decide, by decide⟩, _, _, rfl, rfl, _, 69623, rfl, rfl, .inr ⟨by decide, by decide⟩, _, 2147483647, rfl, rfl, by show (0 : Int) < 2147483647; decide, ?_⟩
      refine ⟨_, rfl, _, 48271, rfl, rfl, .inr ⟨by decide, by decide⟩, _, 30103, rfl, rfl, _, 2147483629, rfl, rfl, by show (0 : Int) < 2147483629; decide, _, 1, rfl, rfl, ?_⟩
      refine ⟨.ref b, rfl, b, _, 1, 1, rfl, rfl, h1, rfl, ?_⟩
      refine ⟨_, rfl, _, 2147483647, rfl, rfl, .inr ⟨by decide, by decide⟩, .ref b, rfl, b, _, 1, _, rfl, rfl, SqL.of upd_same, rfl, _, _, rfl, rfl, _, 8191, rfl, rfl, div_ok (by decide) (by decide), .int m, rfl, _, m, rfl, rfl, hm, ?_⟩
      exact q _ _ (mod_in hm).1 (mod_in hm).2 (but_set.trans but_set) ⟨_, _, _, upd_same⟩
theorem ok__law_box (T : Txt K w mg) : FnOk P w K mg base CX0 1 T.f__law_box T.fd__law_box ["_law_script", "_law_k"] (spBox K) := by
  refine T.F__law_box.ok sc__law_box (fun vs H Q E h => ?_) (fun cdv A outer s H vs Q E hr h => ?_)
  · obtain ⟨a, ns, k, rfl, _⟩ := h
    rfl
  · obtain ⟨a, ns, k, rfl, hS, h0, h6, q⟩ := h
    refine ⟨_, (pss_cons (ps_set (i := 2) sc__law_box.nd rfl (.inl rfl) (pe_op op_add (pe_op op_mul pe_int (pv 1)) pe_int))
 (Evl.pss_cut (ps_if (pt_cmpR op_lt (pv 1) (pe_callB call_len_seq (by rfl) T.m_len (by decide +kernel) (pa_cons (pv 0) pa_nil)) (nomark _))
 (pss_one (ps_set (i := 2) sc__law_box.nd rfl (.inl rfl) (pe_ix ix_list (pv 0) (pv 1) (fun _ _ => rfl))))
 (pss_one (ps_if (pt_cmpR op_gt (pe_callB call_len_seq (by rfl) T.m_len (by decide +kernel) (pa_cons (pv 0) pa_nil)) pe_int (nomark _))
 (pss_one (ps_set (i := 2) sc__law_box.nd rfl (.inl rfl) (pe_op op_add (pv 2) (pe_op op_mul (pe_op op_mod (pe_ix ix_list (pv 0) (pe_op op_mod (pv 1) (pe_callB call_len_seq (by rfl) T.m_len (by decide +kernel) (pa_cons (pv 0) pa_nil))) (fun _ _ => rfl)) pe_int) pe_int))))
 pss_nil)))
 (pss_cons (ps_set (i := 3) sc__law_box.nd rfl (.inl rfl) (pe_op op_add (pe_op op_mod (pe_op op_add (pe_op op_mul (pe_op op_mod (pv 2) pe_int) pe_int) (pe_op op_mul pe_int (pv 1))) pe_int) pe_int))
 (pss_one (ps_ret (pe_lst (pa_cons (pe_ix ix_list (pe_lst (pa_cons pe_int (pa_cons (pv 2) pa_nil))) (pe_callTy call_int1 (by rfl) T.m_int (by decide +kernel) (pa_cons (pe_cmpR op_ge (pv 2) (pe_op op_pow pe_int pe_int) (nomark _)) pa_nil)) (fun _ _ => rfl)) (pa_cons (pv 3) (pa_cons pe_int pa_nil))))))))), ?_⟩
    refine ⟨.int k, rfl, 6263, k, rfl, rfl, .inl ⟨by decide, by decide⟩, _, 31, rfl, rfl, ?_⟩
    refine ⟨fun σ H' => ∃ c : Int, σ = [some (.ref a), some (.int k), some (.int c), none] ∧ H' = H, ?_, ?_⟩
    · refine ⟨.int k, rfl, .ref a, rfl, a, _, rfl, .inl hS, k, _, rfl, rfl, _, rfl, ite2 (fun e => ?_) (fun e => ?_)⟩
      · have e1 := of_decide_eq_true e
        rw [List.length_map] at e1
        obtain ⟨z, hz⟩ := atI_ints h0 e1
        exact ⟨.ref a, rfl, .int k, rfl, a, _, k, .int z, rfl, rfl, hS, hz, z, rfl, rfl⟩
      · refine ⟨.ref a, rfl, a, _, rfl, .inl hS, _, 0, rfl, rfl, _, rfl, ite2 (fun e => ?_) (fun e => ?_)⟩
        · have e1 := of_decide_eq_true e
          have e2 : (0 : Int) < ((ns.map V.int).length : Int) := e1
          have m2 := mod_in (a := k) e2
          obtain ⟨z, hz⟩ := atI_ints (ns := ns) m2.1 (by have := m2.2; rw [List.length_map] at this; rw [List.length_map]; exact this)
          refine ⟨.int (6263 * k + 31), rfl, .ref a, rfl, .int k, rfl, .ref a, rfl, a, _, rfl, .inl hS, k, _, rfl, rfl, e1, a, _, _, .int z, rfl, rfl, hS, hz, z, 2147483629, rfl, rfl, by show (0 : Int) < 2147483629; decide, _, 69623, rfl, rfl, .inr ⟨by decide, by decide⟩, _, _, rfl, rfl, _, rfl, rfl⟩
        · exact ⟨_, rfl, rfl⟩
    · rintro σ H' ⟨c, rfl, rfl⟩
      refine ⟨.int c, rfl, c, 2147483629, rfl, rfl, by show (0 : Int) < 2147483629; decide, _, 48271, rfl, rfl, .inr ⟨by decide, by decide⟩, .int k, rfl, 40692, k, rfl, rfl, .inl ⟨by decide, by decide⟩, _, _, rfl, rfl, _, 2147483629, rfl, rfl, by show (0 : Int) < 2147483629; decide, _, 1, rfl, rfl, ?_⟩
      refine ⟨.int c, rfl, by show 2 ≤ sizeLine; decide, fun p np => ?_⟩
      refine ⟨.int c, rfl, 10, 18, rfl, rfl, ⟨by decide, by decide, by decide⟩, c, _, rfl, rfl, .inr ⟨_, rfl, ?_⟩⟩
      have hx : ∃ z : Int, atI [V.int 0, V.int c] (if (decide ((10 : Int) ^ (18 : Int).toNat ≤ c)) = true then 1 else 0) = some (.int z) := by
        by_cases h : (decide ((10 : Int) ^ (18 : Int).toNat ≤ c)) = true
        · rw [if_pos h]
          exact ⟨c, rfl⟩
        · rw [if_neg h]
          exact ⟨0, rfl⟩
      obtain ⟨z, hz⟩ := hx
      refine ⟨p, _, _, .int z, rfl, rfl, SqL.of upd_same, hz, _, rfl, by show 3 ≤ sizeLine; decide, fun b nb => ?_⟩
      refine q b _ ?_ ((same_new np).trans (same_new nb)) ⟨_, _, _, upd_same⟩
      exact (same_new np).free nb
end
section
variable {P : Program} {w : World} {K : PySem.W.Frag} {mg : Str → Option Value} {base : Heap}
theorem ok_way_on (T : Txt K w mg) : FnOk P w K mg base CX0 1 T.f_way_on T.fd_way_on ["way", "shape"] spTurn := by
  refine T.F_way_on.ok sc_way_on (fun vs H Q E h => ?_) (fun cdv A outer s H vs Q E hr h => ?_)
  · obtain ⟨w, s, rfl, _⟩ := h
    rfl
  · obtain ⟨w, s, rfl, q⟩ := h
    refine ⟨_, (pss_one (ps_ret (pe_op op_mod (pe_op op_add (pv 0) (pe_ix ix_kdict (pe_glob (v := .ref T.a_TURNS) (by rfl) T.g_TURNS rfl) (pv 1) (fun _ _ => rfl))) pe_int))), ?_⟩
    exact ⟨.int w, rfl, .str s.str, rfl, T.a_TURNS, s.str, .int s.t, rfl, rfl, T.TURNS s, w, s.t, rfl, rfl, _, 4, rfl, rfl, by show (0 : Int) < 4; decide, q _ (Same.refl H)⟩
theorem ok_onward (T : Txt K w mg) : FnOk P w K mg base CX0 1 T.f_onward T.fd_onward ["square", "way", "steps"] (spOnward K) := by
  refine FunD_ok0 T.F_onward sc_onward (fun vs H Q E h => ?_) (fun cdv A outer s H vs Q E hr h => ?_)
  · obtain ⟨v, p, w, n, rfl, _⟩ := h
    rfl
  · obtain ⟨v, p, w, n, rfl, hd, w0, w3, q⟩ := h
    obtain ⟨a, rfl, hs⟩ := sq_at hd
    obtain ⟨aS, xS, eS, hsS, dS⟩ := (T.STEPS H).tupOf
    cases eS
    obtain ⟨b, hb, hbs⟩ := step_at dS w0 w3
    refine ⟨_, (pss_cons (ps_asg (pv 0) (pg_tup rfl (pgs_cons (pg_name (i := 3) sc_onward.nd rfl (.inl rfl)) (pgs_cons (pg_name (i := 4) sc_onward.nd rfl (.inl rfl)) pgs_nil))))
 (pss_cons (ps_asg (pe_ix ix_tup (pe_glob (v := .ref T.a_STEPS) (by rfl) T.g_STEPS rfl) (pv 1) (fun _ _ => rfl)) (pg_tup rfl (pgs_cons (pg_name (i := 5) sc_onward.nd rfl (.inl rfl)) (pgs_cons (pg_name (i := 6) sc_onward.nd rfl (.inl rfl)) pgs_nil))))
 (pss_one (ps_ret (pe_tup (pa_cons (pe_op op_add (pv 3) (pe_op op_mul (pv 5) (pv 2))) (pa_cons (pe_op op_add (pv 4) (pe_op op_mul (pv 6) (pv 2))) pa_nil))))))), ?_⟩
    refine ⟨.ref a, rfl, a, _, rfl, hs, rfl, _, _, rfl, _, _, rfl, rfl, ?_⟩
    refine ⟨.int w, rfl, _, _, w, .ref b, rfl, rfl, hsS, hb, b, _, rfl, hbs, rfl, _, _, rfl, _, _, rfl, rfl, ?_⟩
    refine ⟨.int p.1, rfl, .int (dx w), rfl, .int n, rfl, dx w, n, rfl, rfl, dx_ok w n, p.1, _, rfl, rfl, .int p.2, rfl, .int (dy w), rfl, .int n, rfl, dy w, n, rfl, rfl, dy_ok w n, p.2, _, rfl, rfl, by show 2 ≤ sizeLine; decide, fun t nt => ?_⟩
    exact q _ _ (same_new nt) (DT.new (.cons (.int _) (.cons (.int _) .nil)) nt)
end
/-! ### the compass -/
def ixOf : Sh → Nat
  | .s => 0
  | .l => 1
  | .r => 2
def rose : Sh → Str
  | .s => "nesw"
  | .l => "wnes"
  | .r => "eswn"
theorem occ_slr (s : Sh) : Builtin.Str.occurrences ("slr" : Str) s.str 0 ("slr" : Str).length 1 = [ixOf s] := by
  cases s <;> decide +kernel
theorem rose_at (s : Sh) : atI [V.str "nesw", V.str "wnes", V.str "eswn"] ((ixOf s : Nat) : Int) = some (.str (rose s)) := by
  cases s <;> rfl
theorem rose_ix (s : Sh) {w : Int} (w0 : 0 ≤ w) (w3 : w ≤ 3) : ∃ c, atI (rose s).cps.toList w = some c ∧ ∃ n rest, Builtin.Str.occurrences ("nesw" : Str) (⟨#[c]⟩ : Str) 0 ("nesw" : Str).length 1 = n :: rest ∧ ((n : Nat) : Int) = tn w s := by
  rcases way4 w0 w3 with rfl | rfl | rfl | rfl <;> cases s
  · exact ⟨119, by decide +kernel, 3, [], by decide +kernel, by decide⟩
  · exact ⟨110, by decide +kernel, 0, [], by decide +kernel, by decide⟩
  · exact ⟨101, by decide +kernel, 1, [], by decide +kernel, by decide⟩
  · exact ⟨110, by decide +kernel, 0, [], by decide +kernel, by decide⟩
  · exact ⟨101, by decide +kernel, 1, [], by decide +kernel, by decide⟩
  · exact ⟨115, by decide +kernel, 2, [], by decide +kernel, by decide⟩
  · exact ⟨101, by decide +kernel, 1, [], by decide +kernel, by decide⟩
  · exact ⟨115, by decide +kernel, 2, [], by decide +kernel, by decide⟩
  · exact ⟨119, by decide +kernel, 3, [], by decide +kernel, by decide⟩
  · exact ⟨115, by decide +kernel, 2, [], by decide +kernel, by decide⟩
  · exact ⟨119, by decide +kernel, 3, [], by decide +kernel, by decide⟩
  · exact ⟨110, by decide +kernel, 0, [], by decide +kernel, by decide⟩
theorem rose_len (s : Sh) : (rose s).length ≤ sizeLine := by
  cases s <;> decide +kernel
def spCompass : Sp := fun vs H Q _ => ∃ (w : Int) (s : Sh), vs = [.int w, .str s.str] ∧ 0 ≤ w ∧ w ≤ 3 ∧ ∀ H', Same H H' → Q (.int (tn w s)) H'
def spBack : Sp := fun vs H Q _ => ∃ (w : Int) (s : Sh), vs = [.int w, .str s.str] ∧ ∀ H', Same H H' → Q (.int (tb w s)) H'
def spRight (K : PySem.W.Frag) : Sp := fun vs H Q _ => ∃ (v : V) (p : Int × Int) (w n : Int), vs = [v, .int w, .int n] ∧ DT K H v (sq p) ∧ 0 ≤ w ∧ w ≤ 3 ∧ ∀ H', Same H H' → Q (.bl true) H'
theorem tb_tn {w : Int} (w0 : 0 ≤ w) (w3 : w ≤ 3) (s : Sh) : tb (tn w s) s = w := by
  rcases way4 w0 w3 with rfl | rfl | rfl | rfl <;> cases s <;> decide
theorem log4 {w : Int} (w0 : 0 ≤ w) (w3 : w ≤ 3) : w.natAbs.log2 < 1920 := by
  rcases way4 w0 w3 with rfl | rfl | rfl | rfl <;> decide
theorem far_eq (x y w n : Int) (w0 : 0 ≤ w) (w3 : w ≤ 3) : pick4D w (.tuple [.int x, .int (y + n)]) (.tuple [.int (x + n), .int y]) (.tuple [.int x, .int (y - n)]) (.tuple [.int (x - n), .int y]) = sq (x + dx w * n, y + dy w * n) := by
  rcases way4 w0 w3 with rfl | rfl | rfl | rfl
  · simp [pick4D, sq, dx, dy]
  · simp [pick4D, sq, dx, dy]
  · simp [pick4D, sq, dx, dy]
    omega
  · simp [pick4D, sq, dx, dy]
    omega
theorem far_back (x y w n : Int) (w0 : 0 ≤ w) (w3 : w ≤ 3) : (x + dx w * n + dx ((w + 2) % 4) * n, y + dy w * n + dy ((w + 2) % 4) * n) = (x, y) := by
  rcases way4 w0 w3 with rfl | rfl | rfl | rfl
  · simp [dx, dy]
    omega
  · simp [dx, dy]
    omega
  · simp [dx, dy]
    omega
  · simp [dx, dy]
    omega
theorem eqv_same (p : Int × Int) : PyData.eqv (sq p) (sq p) = true := by
  rw [eqv_sq]
  exact decide_eq_true rfl
section
variable {P : Program} {w : World} {K : PySem.W.Frag} {mg : Str → Option Value} {base : Heap}
theorem ok_way_behind (T : Txt K w mg) : FnOk P w K mg base CX0 1 T.f_way_behind T.fd_way_behind ["way", "shape"] spBack := by
  refine T.F_way_behind.ok sc_way_behind (fun vs H Q E h => ?_) (fun cdv A outer s H vs Q E hr h => ?_)
  · obtain ⟨w, s, rfl, _⟩ := h
    rfl
  · obtain ⟨w, s, rfl, q⟩ := h
    refine ⟨_, (pss_one (ps_ret (pe_op op_mod (pe_op op_sub (pv 0) (pe_ix ix_kdict (pe_glob (v := .ref T.a_TURNS) (by rfl) T.g_TURNS rfl) (pv 1) (fun _ _ => rfl))) pe_int))), ?_⟩
    exact ⟨.int w, rfl, .str s.str, rfl, T.a_TURNS, s.str, .int s.t, rfl, rfl, T.TURNS s, w, s.t, rfl, rfl, _, 4, rfl, rfl, by show (0 : Int) < 4; decide, q _ (Same.refl H)⟩
theorem ok__law_compass (T : Txt K w mg) : FnOk P w K mg base CX0 1 T.f__law_compass T.fd__law_compass ["_law_here", "_law_form"] spCompass := by
  refine T.F__law_compass.ok sc__law_compass (fun vs H Q E h => ?_) (fun cdv A outer s H vs Q E hr h => ?_)
  · obtain ⟨w, s, rfl, _⟩ := h
    rfl
  · obtain ⟨w, s, rfl, w0, w3, q⟩ := h
    obtain ⟨c, hc, n, rest, hn, en⟩ := rose_ix s w0 w3
    refine ⟨_, (pss_cons (ps_set (i := 2) sc__law_compass.nd rfl (.inl rfl) (pe_ix ix_list (pe_lst (pa_cons pe_str (pa_cons pe_str (pa_cons pe_str pa_nil)))) (pe_bm PySem.F.plainAttrs_str PySem.F.slot_str_index PySem.F.type_str_index mt_sindex pe_str (pa_cons (pv 1) pa_nil)) (fun _ _ => rfl)))
 (pss_one (ps_ret (pe_bm PySem.F.plainAttrs_str PySem.F.slot_str_index PySem.F.type_str_index mt_sindex pe_str (pa_cons (pe_ix ix_str (pv 2) (pv 0) (fun _ _ => rfl)) pa_nil))))), ?_⟩
    refine ⟨by show 3 ≤ sizeLine; decide, fun p np => ?_⟩
    refine ⟨rfl, .str s.str, rfl, _, _, ixOf s, [], rfl, rfl, occ_slr s, p, _, _, _, rfl, rfl, SqL.of upd_same, rose_at s, ?_⟩
    refine ⟨rfl, .str (rose s), rfl, .int w, rfl, _, w, c, rfl, rfl, rose_len s, hc, _, _, n, rest, rfl, rfl, hn, ?_⟩
    rw [en]
    exact q _ (same_new np)
theorem ok__law_right (T : Txt K w mg) : FnOk P w K mg base CX0 2 T.f__law_right T.fd__law_right ["_law_spot", "_law_here", "_law_far"] (spRight K) := by
  refine T.F__law_right.ok sc__law_right (fun vs H Q E h => ?_) (fun cdv A outer s H vs Q E hr h => ?_)
  · obtain ⟨v, p, w, n, rfl, _⟩ := h
    rfl
  · obtain ⟨v, p, w, n, rfl, hd, w0, w3, q⟩ := h
    obtain ⟨x, y⟩ := p
    obtain ⟨a, rfl, hs⟩ := sq_at hd
    refine ⟨_, (pss_cons (ps_asg (pv 0) (pg_tup rfl (pgs_cons (pg_name (i := 3) sc__law_right.nd rfl (.inl rfl)) (pgs_cons (pg_name (i := 4) sc__law_right.nd rfl (.inl rfl)) pgs_nil))))
 (pss_cons (ps_set (i := 5) sc__law_right.nd rfl (.inl rfl) (pe_dget (hu_of hr) (pe_disp (pps_cons pe_int (pe_tup (pa_cons (pv 3) (pa_cons (pe_op op_add (pv 4) (pv 2)) pa_nil))) (pps_cons pe_int (pe_tup (pa_cons (pe_op op_add (pv 3) (pv 2)) (pa_cons (pv 4) pa_nil))) (pps_cons pe_int (pe_tup (pa_cons (pv 3) (pa_cons (pe_op op_sub (pv 4) (pv 2)) pa_nil))) (pps_cons pe_int (pe_tup (pa_cons (pe_op op_sub (pv 3) (pv 2)) (pa_cons (pv 4) pa_nil))) pps_nil)))) (by rfl) (by rfl) (fun z => by cases z) (by decide)) (pv 1) (fun _ _ => rfl)))
 (pss_cons (ps_set (i := 6) sc__law_right.nd rfl (.inl rfl) (pe_callN (ok_onward T) (hr.mono (by decide)) (by rfl) T.g_onward T.F_onward.kp T.kb1_onward pass0 (pa_cons (pv 0) (pa_cons (pv 1) pa_nil)) (pk_cons (pv 2) pk_nil)))
 (pss_cons (ps_if (PW.pt (pw_or (pt_not (pt_val (pe_callB call_isi (by rfl) T.m_isinstance (by decide +kernel) (pa_cons (pv 6) (pa_cons (pe_bltn (v := .ty "tuple") (by rfl) T.m_tuple (by decide +kernel) rfl) pa_nil))))) (pw_or (pt_cmpR (op_neD hr.units) (pv 6) (pv 5) (nomark _)) (pw_or1 (pt_cmpR (op_neD hr.units) (pe_callN (ok_onward T) (hr.mono (by decide)) (by rfl) T.g_onward T.F_onward.kp T.kb1_onward pass0 (pa_cons (pv 6) (pa_cons (pe_op op_mod (pe_op op_add (pv 1) pe_int) pe_int) pa_nil)) (pk_cons (pv 2) pk_nil)) (pv 0) (nomark _))))))
 (pss_one (ps_ret pe_bl))
 pss_nil)
 (pss_cons (ps_set (i := 7) sc__law_right.nd rfl (.inl rfl) (pe_dget (hu_of hr) (pe_disp (pps_cons pe_int (pe_tup (pa_cons (pv 3) (pa_cons (pe_op op_add (pv 4) pe_int) pa_nil))) (pps_cons pe_int (pe_tup (pa_cons (pe_op op_add (pv 3) pe_int) (pa_cons (pv 4) pa_nil))) (pps_cons pe_int (pe_tup (pa_cons (pv 3) (pa_cons (pe_op op_sub (pv 4) pe_int) pa_nil))) (pps_cons pe_int (pe_tup (pa_cons (pe_op op_sub (pv 3) pe_int) (pa_cons (pv 4) pa_nil))) pps_nil)))) (by rfl) (by rfl) (fun z => by cases z) (by decide)) (pv 1) (fun _ _ => rfl)))
 (pss_one (ps_ret (pe_and (pe_cmpR (op_eqD hr.units) (pe_kw0 (ok_onward T) (hr.mono (by decide)) (by rfl) T.g_onward T.F_onward.kp T.kb2_onward pass0 (pk_cons (pv 1) (pk_cons (pv 0) pk_nil))) (pv 7) (nomark _)) (pe_one (pe_cmpR (op_eqD hr.units) (pe_callN (ok_onward T) (hr.mono (by decide)) (by rfl) T.g_onward T.F_onward.kp T.kb1_onward pass0 (pa_cons (pv 0) (pa_cons (pv 1) pa_nil)) (pk_cons pe_int pk_nil)) (pv 0) (nomark _))))))))))), ?_⟩
    refine ⟨.ref a, rfl, a, _, rfl, hs, rfl, _, _, rfl, _, _, rfl, rfl, ?_⟩
    refine r_disp4 (K := K) (evd_2 (evi_v rfl) (evi_0 (evi_v rfl) (evi_v rfl))) (evd_2 (evi_0 (evi_v rfl) (evi_v rfl)) (evi_v rfl)) (evd_2 (evi_v rfl) (evi_0 (evi_v rfl) (evi_v rfl))) (evd_2 (evi_0 (evi_v rfl) (evi_v rfl)) (evi_v rfl)) rfl w0 w3 fun v1 H1 s1 d1 => ?_
    dsimp only at d1
    rw [far_eq x y w n w0 w3] at d1
    refine ⟨.ref a, rfl, .int w, rfl, .int n, rfl, rfl, rfl, .ref a, (x, y), w, n, rfl, hd.up (tk_same s1), w0, w3, fun v2 H2 s2 d2 => ?_⟩
    have d1' := d1.up (tk_same s2)
    refine ⟨v2, rfl, v2, .ty "tuple", _, _, _, rfl, .ty _, d2.ty, kT d2, _, rfl, iteF ?_⟩
    refine ⟨v2, rfl, v1, rfl, _, _, d2.dp, d1'.dp, shaped_sq _, shaped_sq _, _, rfl, ?_⟩
    rw [eqv_same]
    refine iteF ?_
    have m4 := mod_in (a := w + 2) (m := 4) (by decide)
    refine ⟨v2, rfl, .int w, rfl, w, 2, rfl, rfl, _, 4, rfl, rfl, by show (0 : Int) < 4; decide, .int n, rfl, rfl, rfl, v2, _, (w + 2) % 4, n, rfl, d2, m4.1, by omega, fun v3 H3 s3 d3 => ?_⟩
    dsimp only at d3
    rw [far_back x y w n w0 w3] at d3
    refine ⟨.ref a, rfl, _, _, d3.dp, (hd.up (((tk_same s1).trans (tk_same s2)).trans (tk_same s3))).dp, shaped_sq _, shaped_sq _, _, rfl, ?_⟩
    rw [eqv_same]
    refine iteF ?_
    refine r_disp4 (K := K) (evd_2 (evi_v rfl) (evi_0 (evi_v rfl) evi_c)) (evd_2 (evi_0 (evi_v rfl) evi_c) (evi_v rfl)) (evd_2 (evi_v rfl) (evi_0 (evi_v rfl) evi_c)) (evd_2 (evi_0 (evi_v rfl) evi_c) (evi_v rfl)) rfl w0 w3 fun v4 H4 s4 d4 => ?_
    dsimp only at d4
    rw [far_eq x y w 1 w0 w3] at d4
    have s14 := ((s1.trans s2).trans s3).trans s4
    refine ⟨.int w, rfl, .ref a, rfl, rfl, rfl, .ref a, (x, y), w, 1, rfl, hd.up (tk_same s14), w0, w3, fun v5 H5 s5 d5 => ?_⟩
    refine ⟨v4, rfl, _, _, d5.dp, (d4.up (tk_same s5)).dp, shaped_sq _, shaped_sq _, _, rfl, ?_⟩
    rw [eqv_same]
    refine iteT ?_
    refine ⟨.ref a, rfl, .int w, rfl, rfl, rfl, .ref a, (x, y), w, 0, rfl, hd.up (tk_same (s14.trans s5)), w0, w3, fun v6 H6 s6 d6 => ?_⟩
    dsimp only at d6
    rw [Int.mul_zero, Int.mul_zero, Int.add_zero, Int.add_zero] at d6
    refine ⟨.ref a, rfl, _, _, d6.dp, (hd.up (tk_same ((s14.trans s5).trans s6))).dp, shaped_sq _, shaped_sq _, ?_⟩
    rw [eqv_same]
    exact q _ ((s14.trans s5).trans s6)
end
theorem sign_at {i : Nat} {c : Nat} (h : ("lsr" : Str).cps[i]? = some c) : ∃ s : Sh, (⟨#[c]⟩ : Str) = s.str := by
  rcases i with _ | _ | _ | i
  · have : c = 108 := (Option.some.inj h).symm
    exact ⟨.l, by rw [this]; decide +kernel⟩
  · have : c = 115 := (Option.some.inj h).symm
    exact ⟨.s, by rw [this]; decide +kernel⟩
  · have : c = 114 := (Option.some.inj h).symm
    exact ⟨.r, by rw [this]; decide +kernel⟩
  · have e : ("lsr" : Str).cps = #[108, 115, 114] := by decide +kernel
    rw [e] at h
    simp at h
section
variable {P : Program} {w : World} {K : PySem.W.Frag} {mg : Str → Option Value} {base : Heap}
theorem ok_law (T : Txt K w mg) {f : Addr} {fd : FuncData} (F : Fun K "law" "law" s_law f fd) : FnOk P w K mg base CX0 3 f fd ["_law_script"] (spLaw K) := by
  refine F.ok sc_law (fun vs H Q E h => ?_) (fun cdv A outer s H vs Q E hr h => ?_)
  · obtain ⟨a, ns, rfl, _⟩ := h
    rfl
  · obtain ⟨a, ns, rfl, hS, hlen, q⟩ := h
    refine ⟨_, (pss_cons (ps_for PassesOwn.never rfl (pi_range1 (by rfl) T.m_range (pa_cons (pe_callB (call_max2 rfl) (by rfl) T.m_max (by decide +kernel) (pa_cons pe_int (pa_cons (pe_callB (call_min2 rfl) (by rfl) T.m_min (by decide +kernel) (pa_cons pe_int (pa_cons (pe_callB call_len_seq (by rfl) T.m_len (by decide +kernel) (pa_cons (pv 0) pa_nil)) pa_nil))) pa_nil))) pa_nil)) (pg_name (i := 1) sc_law.nd rfl (.inl rfl))
 (pss_cons (ps_set (i := 2) sc_law.nd rfl (.inl rfl) (pe_call (ok__law_box T) (hr.mono (by decide)) (by rfl) T.g__law_box T.F__law_box.kp T.b__law_box .nil pass0 (pa_cons (pv 0) (pa_cons (pv 1) pa_nil))))
 (pss_cons (ps_set (i := 3) sc_law.nd rfl (.inl rfl) (pe_ix ix_list (pe_lst (pa_cons pe_int (pa_cons pe_int pa_nil))) (pe_call (ok__law_take T) (hr.mono (by decide)) (by rfl) T.g__law_take T.F__law_take.kp T.b__law_take .nil pass0 (pa_cons (pv 2) (pa_cons pe_int pa_nil))) (fun _ _ => rfl)))
 (pss_cons (ps_set (i := 4) sc_law.nd rfl (.inl rfl) (pe_tup (pa_cons (pe_op op_sub (pe_call (ok__law_take T) (hr.mono (by decide)) (by rfl) T.g__law_take T.F__law_take.kp T.b__law_take .nil pass0 (pa_cons (pv 2) (pa_cons (pe_op op_add (pe_op op_mul pe_int (pv 3)) pe_int) pa_nil))) (pv 3)) (pa_cons (pe_op op_sub (pe_call (ok__law_take T) (hr.mono (by decide)) (by rfl) T.g__law_take T.F__law_take.kp T.b__law_take .nil pass0 (pa_cons (pv 2) (pa_cons (pe_op op_add (pe_op op_mul pe_int (pv 3)) pe_int) pa_nil))) (pv 3)) pa_nil))))
 (pss_one (ps_for PassesOwn.never rfl (pi_range1 (by rfl) T.m_range (pa_cons pe_int pa_nil)) (pg_name (i := 5) sc_law.nd rfl (.inl rfl))
 (pss_cons (ps_for PassesOwn.never rfl (pi_str pe_str) (pg_name (i := 6) sc_law.nd rfl (.inl rfl))
 (pss_cons (ps_set (i := 7) sc_law.nd rfl (.inl rfl) (pe_call (ok__law_compass T) (hr.mono (by decide)) (by rfl) T.g__law_compass T.F__law_compass.kp T.b__law_compass .nil pass0 (pa_cons (pv 5) (pa_cons (pv 6) pa_nil))))
 (pss_cons (ps_if (PW.pt (pw_or (pt_cmpR op_ne (pe_callB SkE.call_repr_int (by rfl) T.m_repr (by decide +kernel) (pa_cons (pe_call (ok_way_on T) (hr.mono (by decide)) (by rfl) T.g_way_on T.F_way_on.kp T.b_way_on .nil pass0 (pa_cons (pv 5) (pa_cons (pv 6) pa_nil))) pa_nil)) (pe_callB SkE.call_repr_int (by rfl) T.m_repr (by decide +kernel) (pa_cons (pv 7) pa_nil)) (nomark _)) (pw_or1 (pt_cmpR op_ne (pe_callB SkE.call_repr_int (by rfl) T.m_repr (by decide +kernel) (pa_cons (pe_call (ok_way_behind T) (hr.mono (by decide)) (by rfl) T.g_way_behind T.F_way_behind.kp T.b_way_behind .nil pass0 (pa_cons (pv 7) (pa_cons (pv 6) pa_nil))) pa_nil)) (pe_callB SkE.call_repr_int (by rfl) T.m_repr (by decide +kernel) (pa_cons (pv 5) pa_nil)) (nomark _)))))
 (pss_one (ps_ret pe_bl))
 pss_nil)
 (pss_one (ps_if (PW.pt (pw_or (pt_cmpR op_ne (pe_kw0 (ok_way_on T) (hr.mono (by decide)) (by rfl) T.g_way_on T.F_way_on.kp T.kb_way_on pass0 (pk_cons (pv 6) (pk_cons (pv 5) pk_nil))) (pv 7) (nomark _)) (pw_or1 (pt_cmpR op_ne (pe_kw0 (ok_way_behind T) (hr.mono (by decide)) (by rfl) T.g_way_behind T.F_way_behind.kp T.kb_way_behind pass0 (pk_cons (pv 6) (pk_cons (pv 7) pk_nil))) (pv 5) (nomark _)))))
 (pss_one (ps_ret pe_bl))
 pss_nil)))))
 (pss_one (ps_if (pt_not (pt_val (pe_call (ok__law_right T) (hr.mono (by decide)) (by rfl) T.g__law_right T.F__law_right.kp T.b__law_right .nil pass0 (pa_cons (pv 4) (pa_cons (pv 5) (pa_cons (pe_call (ok__law_take T) (hr.mono (by decide)) (by rfl) T.g__law_take T.F__law_take.kp T.b__law_take .nil pass0 (pa_cons (pv 2) (pa_cons (pe_ix ix_list (pe_lst (pa_cons pe_int (pa_cons pe_int pa_nil))) (pe_call (ok__law_take T) (hr.mono (by decide)) (by rfl) T.g__law_take T.F__law_take.kp T.b__law_take .nil pass0 (pa_cons (pv 2) (pa_cons pe_int pa_nil))) (fun _ _ => rfl)) pa_nil))) pa_nil))))))
 (pss_one (ps_ret pe_bl))
 pss_nil)))))))))
 (pss_one (ps_ret pe_bl))), ?_⟩
    have hr0 := lawRange (n := (ns.map V.int).length) 6 (by decide) (by decide)
    refine ⟨.ref a, rfl, a, _, rfl, .inl hS, 6, _, rfl, 2, _, rfl, _, rfl, by omega, by omega, for_range (lo := 0) (fun i σ H' => ∃ y1 y2 y3 y4 y5 y6 y7, σ = [some (.ref a), y1, y2, y3, y4, y5, y6, y7] ∧ SqL K H' a (ns.map V.int)) ⟨none, none, none, none, none, none, none, rfl, hS⟩ (fun i σ H' hi hP => ?_) (fun σ H' hP => q H')⟩
    obtain ⟨y1, y2, y3, y4, y5, y6, y7, rfl, hS'⟩ := hP
    refine ⟨.ref a, rfl, .int (0 + (i : Int)), rfl, a, ns, _, rfl, hS', by omega, by omega, fun b H1 nb s1 hb1 => ?_⟩
    have keep := script_keep hS' nb
    have hS1 := s1.seq hS'
    -- wide
    refine ⟨by show 2 ≤ sizeLine; decide, fun pl npl => ?_⟩
    have hb2 := hb1.same (same_new (o := HO.lst [.int 5, .int 1000000000]) npl)
    refine ⟨.ref b, rfl, b, 2, rfl, hb2, by decide, by decide, fun r1 H2 a1 a2 e2 hb3 => ?_⟩
    have npb : pl ≠ b := fun z => by
      obtain ⟨i1, i2, i3, h0⟩ := hb1
      rw [z, h0] at npl
      cases npl
    have hpl : H2 pl = some (.lst [.int 5, .int 1000000000]) := e2 _ _ npb upd_same
    have hz : ∃ z : Int, atI [V.int 5, V.int 1000000000] r1 = some (.int z) ∧ 0 ≤ z ∧ z ≤ 1000000000 := by
      have h : r1 = 0 ∨ r1 = 1 := by omega
      rcases h with rfl | rfl
      · exact ⟨5, rfl, by decide, by decide⟩
      · exact ⟨1000000000, rfl, by decide, by decide⟩
    obtain ⟨z, hz, z0, z9⟩ := hz
    refine ⟨pl, _, r1, .int z, rfl, rfl, SqL.of hpl, hz, ?_⟩
    have hS2 := keep _ _ e2 ((same_new (o := HO.lst [.int 5, .int 1000000000]) npl).seq hS1)
    -- spot
    refine ⟨.ref b, rfl, .int z, rfl, 2, z, rfl, rfl, .inl ⟨by decide, by decide⟩, _, 1, rfl, rfl, b, 2 * z + 1, rfl, hb3, by omega, by omega, fun r2 H3 a3 a4 e3 hb4 => ?_⟩
    refine ⟨.int z, rfl, r2, z, rfl, rfl, ?_⟩
    refine ⟨.ref b, rfl, .int z, rfl, 2, z, rfl, rfl, .inl ⟨by decide, by decide⟩, _, 1, rfl, rfl, b, 2 * z + 1, rfl, hb4, by omega, by omega, fun r3 H4 a5 a6 e4 hb5 => ?_⟩
    refine ⟨.int z, rfl, r3, z, rfl, rfl, by show 2 ≤ sizeLine; decide, fun t nt => ?_⟩
    have hS4 := keep _ _ e4 (keep _ _ e3 hS2)
    have st := same_new (o := HO.tup [.int (r2 - z), .int (r3 - z)]) nt
    have dt : DT K (upd H4 t (.tup [.int (r2 - z), .int (r3 - z)])) (.ref t) (sq (r2 - z, r3 - z)) := DT.new (.cons (.int _) (.cons (.int _) .nil)) nt
    refine ⟨4, rfl, by decide, by decide, for_range (lo := 0) (n := 4) (fun j σ H' => ∃ y5 y6 y7, σ = [some (.ref a), some (.int (0 + (i : Int))), some (.ref b), some (.int z), some (.ref t), y5, y6, y7] ∧ SqL K H' a (ns.map V.int) ∧ Box H' b ∧ DT K H' (.ref t) (sq (r2 - z, r3 - z))) ⟨_, _, _, rfl, st.seq hS4, hb5.same st, dt⟩ (fun j σ H5 hj hP => ?_) (fun σ H5 hP => ?_)⟩
    · obtain ⟨y5, y6, y7, rfl, hS5, hb6, d5⟩ := hP
      have w0 : (0 : Int) ≤ 0 + (j : Int) := by omega
      have w3 : 0 + (j : Int) ≤ 3 := by omega
      generalize (0 + (j : Int)) = wj at w0 w3
      refine ⟨_, rfl, for_str (x := "lsr") (fun m σ H' => ∃ y6 y7, σ = [some (.ref a), some (.int (0 + (i : Int))), some (.ref b), some (.int z), some (.ref t), some (.int wj), y6, y7] ∧ Same H5 H') ⟨_, _, rfl, Same.refl _⟩ (fun m c σ H6 hc hP => ?_) (fun σ H6 hP => ?_)⟩
      · obtain ⟨y6, y7, rfl, s6⟩ := hP
        obtain ⟨sh, hsh⟩ := sign_at hc
        rw [hsh]
        refine ⟨.int wj, rfl, .str sh.str, rfl, wj, sh, rfl, w0, w3, fun H7 s7 => ?_⟩
        have tl := tn_lo wj sh
        have th := tn_hi wj sh
        refine ⟨.int wj, rfl, .str sh.str, rfl, wj, sh, rfl, fun H8 s8 => ?_⟩
        refine ⟨_, rfl, log4 tl th, .int (tn wj sh), rfl, _, rfl, log4 tl th, rfl, _, rfl, iteNS rfl ?_⟩
        refine ⟨.int (tn wj sh), rfl, .str sh.str, rfl, tn wj sh, sh, rfl, fun H9 s9 => ?_⟩
        rw [tb_tn w0 w3 sh]
        refine ⟨_, rfl, log4 w0 w3, .int wj, rfl, _, rfl, log4 w0 w3, rfl, _, rfl, iteNS rfl ?_⟩
        refine ⟨.str sh.str, rfl, .int wj, rfl, rfl, rfl, wj, sh, rfl, fun H10 s10 => ?_⟩
        refine ⟨.int (tn wj sh), rfl, rfl, _, rfl, iteNS rfl ?_⟩
        refine ⟨.str sh.str, rfl, .int (tn wj sh), rfl, rfl, rfl, tn wj sh, sh, rfl, fun H11 s11 => ?_⟩
        rw [tb_tn w0 w3 sh]
        refine ⟨.int wj, rfl, rfl, _, rfl, iteNS rfl ?_⟩
        exact ⟨_, _, rfl, (((s6.trans s7).trans s8).trans s9).trans (s10.trans s11)⟩
      · obtain ⟨y6, y7, rfl, s6⟩ := hP
        have hb7 := hb6.same s6
        refine ⟨.ref t, rfl, .int wj, rfl, .ref b, rfl, by show 2 ≤ sizeLine; decide, fun p2 np2 => ?_⟩
        have hb8 := hb7.same (same_new (o := HO.lst [.int 4, .int 1000000001]) np2)
        refine ⟨.ref b, rfl, b, 2, rfl, hb8, by decide, by decide, fun r4 H7 a7 a8 e7 hb9 => ?_⟩
        have np2b : p2 ≠ b := fun z => by
          obtain ⟨i1, i2, i3, h0⟩ := hb7
          rw [z, h0] at np2
          cases np2
        have hp2 : H7 p2 = some (.lst [.int 4, .int 1000000001]) := e7 _ _ np2b upd_same
        have hu : ∃ u : Int, atI [V.int 4, V.int 1000000001] r4 = some (.int u) ∧ 0 < u ∧ u < 2 ^ 64 := by
          have h : r4 = 0 ∨ r4 = 1 := by omega
          rcases h with rfl | rfl
          · exact ⟨4, rfl, by decide, by decide⟩
          · exact ⟨1000000001, rfl, by decide, by decide⟩
        obtain ⟨u, hu, u0, u9⟩ := hu
        refine ⟨p2, _, r4, .int u, rfl, rfl, SqL.of hp2, hu, b, u, rfl, hb9, u0, u9, fun r5 H8 a9 a10 e8 hb10 => ?_⟩
        have d8 : DT K H8 (.ref t) (sq (r2 - z, r3 - z)) := e8.up hb9 (e7.up hb8 (d5.up ((tk_same s6).trans (tk_new np2))))
        have hS8 := keep _ _ e8 (keep _ _ e7 ((same_new (o := HO.lst [.int 4, .int 1000000001]) np2).seq (s6.seq hS5)))
        refine ⟨.ref t, _, wj, r5, rfl, d8, w0, w3, fun H9 s9 => ⟨true, rfl, iteF ⟨_, _, _, rfl, s9.seq hS8, hb10.same s9, d8.up (tk_same s9)⟩⟩⟩
    · obtain ⟨y5, y6, y7, rfl, hS5, hb6, d5⟩ := hP
      exact ⟨_, _, _, _, _, _, _, rfl, hS5⟩
end
theorem all_mk {l : PySem.W.OpenLaw} {w : World} {K : PySem.W.Frag} {h : Heap} {mg : Str → Option Value} {fa : Addr} (X : K.In h) (G : h.Ns mainGlobals mg) (hfa : mg "law" = some (.ref fa))
    {od0 an0 : Option Addr} {sl0 : Array (Option Value)} {oc0 kV0 dc0 pm0 cd0 ct0 : Value} {f0 : Addr}
    {od1 an1 : Option Addr} {sl1 : Array (Option Value)} {oc1 kV1 dc1 pm1 cd1 ct1 : Value} {f1 : Addr}
    {od3 an3 : Option Addr} {sl3 : Array (Option Value)} {oc3 kV3 dc3 pm3 cd3 ct3 : Value} {f3 : Addr}
    {od4 an4 : Option Addr} {sl4 : Array (Option Value)} {oc4 kV4 dc4 pm4 cd4 ct4 : Value} {f4 : Addr}
    {od5 an5 : Option Addr} {sl5 : Array (Option Value)} {oc5 kV5 dc5 pm5 cd5 ct5 : Value} {f5 : Addr}
    {od6 an6 : Option Addr} {sl6 : Array (Option Value)} {oc6 kV6 dc6 pm6 cd6 ct6 : Value} {f6 : Addr}
    {od7 an7 : Option Addr} {sl7 : Array (Option Value)} {oc7 kV7 dc7 pm7 cd7 ct7 : Value} {f7 : Addr}
    {tA : Addr} {tes : Array DictEntry} {tnn : Nat} {tt1 tt2 tt3 : Tok}
    {sA sB0 sB1 sB2 sB3 : Addr} {sd sd0 sd1 sd2 sd3 : Option Addr} {sn sn0 sn1 sn2 sn3 : Nat} {ss ss0 ss1 ss2 ss3 : Array (Option Value)} {su0 su1 su2 su3 sv0 sv1 sv2 sv3 : Tok}
    {oF oD : Addr} {ooc odc opm ocd oct : Value} {ood oan : Option Addr} {osl : Array (Option Value)} {otk : Tok}
    (a0 : PySem.W.nsIn K mainGlobals "way_on" = some (some (.ref f0)))
    (l0 : K.lookup f0 = some ⟨oc0, od0, .func (PySem.W.fnOf "way_on" "way_on" (defArgs s_way_on) (defBody s_way_on) (defScope s_way_on) .none kV0 dc0 pm0 an0 cd0 ct0), sl0⟩)
    (c0 : PySem.W.codeIn K cd0 "way_on" = true)
    (k0 : PySem.W.keepIn K (.ref f0) = true)
    (a1 : PySem.W.nsIn K mainGlobals "way_behind" = some (some (.ref f1)))
    (l1 : K.lookup f1 = some ⟨oc1, od1, .func (PySem.W.fnOf "way_behind" "way_behind" (defArgs s_way_behind) (defBody s_way_behind) (defScope s_way_behind) .none kV1 dc1 pm1 an1 cd1 ct1), sl1⟩)
    (c1 : PySem.W.codeIn K cd1 "way_behind" = true)
    (k1 : PySem.W.keepIn K (.ref f1) = true)
    (a3 : PySem.W.nsIn K mainGlobals "_law_box" = some (some (.ref f3)))
    (l3 : K.lookup f3 = some ⟨oc3, od3, .func (PySem.W.fnOf "_law_box" "_law_box" (defArgs s__law_box) (defBody s__law_box) (defScope s__law_box) .none kV3 dc3 pm3 an3 cd3 ct3), sl3⟩)
    (c3 : PySem.W.codeIn K cd3 "_law_box" = true)
    (k3 : PySem.W.keepIn K (.ref f3) = true)
    (a4 : PySem.W.nsIn K mainGlobals "_law_take" = some (some (.ref f4)))
    (l4 : K.lookup f4 = some ⟨oc4, od4, .func (PySem.W.fnOf "_law_take" "_law_take" (defArgs s__law_take) (defBody s__law_take) (defScope s__law_take) .none kV4 dc4 pm4 an4 cd4 ct4), sl4⟩)
    (c4 : PySem.W.codeIn K cd4 "_law_take" = true)
    (k4 : PySem.W.keepIn K (.ref f4) = true)
    (a5 : PySem.W.nsIn K mainGlobals "_law_compass" = some (some (.ref f5)))
    (l5 : K.lookup f5 = some ⟨oc5, od5, .func (PySem.W.fnOf "_law_compass" "_law_compass" (defArgs s__law_compass) (defBody s__law_compass) (defScope s__law_compass) .none kV5 dc5 pm5 an5 cd5 ct5), sl5⟩)
    (c5 : PySem.W.codeIn K cd5 "_law_compass" = true)
    (k5 : PySem.W.keepIn K (.ref f5) = true)
    (a6 : PySem.W.nsIn K mainGlobals "_law_right" = some (some (.ref f6)))
    (l6 : K.lookup f6 = some ⟨oc6, od6, .func (PySem.W.fnOf "_law_right" "_law_right" (defArgs s__law_right) (defBody s__law_right) (defScope s__law_right) .none kV6 dc6 pm6 an6 cd6 ct6), sl6⟩)
    (c6 : PySem.W.codeIn K cd6 "_law_right" = true)
    (k6 : PySem.W.keepIn K (.ref f6) = true)
    (a7 : PySem.W.nsIn K mainGlobals "law" = some (some (.ref f7)))
    (l7 : K.lookup f7 = some ⟨oc7, od7, .func (PySem.W.fnOf "law" "law" (defArgs s_law) (defBody s_law) (defScope s_law) .none kV7 dc7 pm7 an7 cd7 ct7), sl7⟩)
    (c7 : PySem.W.codeIn K cd7 "law" = true)
    (k7 : PySem.W.keepIn K (.ref f7) = true)
    (z0 : PySem.W.nsIn K mainGlobals "int" = some none)
    (z1 : PySem.W.nsIn K mainGlobals "isinstance" = some none)
    (z2 : PySem.W.nsIn K mainGlobals "len" = some none)
    (z3 : PySem.W.nsIn K mainGlobals "max" = some none)
    (z4 : PySem.W.nsIn K mainGlobals "min" = some none)
    (z5 : PySem.W.nsIn K mainGlobals "range" = some none)
    (z6 : PySem.W.nsIn K mainGlobals "repr" = some none)
    (z7 : PySem.W.nsIn K mainGlobals "tuple" = some none)
    (ta : PySem.W.nsIn K mainGlobals "TURNS" = some (some (.ref tA)))
    (tl : K.lookup tA = some ⟨.type "dict", none, .dict tes tnn, #[]⟩)
    (tk : PySem.W.KeysLit w.params tes.toList)
    (t1 : PySem.W.nsIn K tA "l" = some (some (.int (-1) tt1)))
    (t2 : PySem.W.nsIn K tA "s" = some (some (.int 0 tt2)))
    (t3 : PySem.W.nsIn K tA "r" = some (some (.int 1 tt3)))
    (sa : PySem.W.nsIn K mainGlobals "STEPS" = some (some (.ref sA)))
    (sl : K.lookup sA = some ⟨.type "tuple", sd, .seq #[.ref sB0, .ref sB1, .ref sB2, .ref sB3] sn, ss⟩)
    (s0 : K.lookup sB0 = some ⟨.type "tuple", sd0, .seq #[.int (0) su0, .int (1) sv0] sn0, ss0⟩)
    (s1 : K.lookup sB1 = some ⟨.type "tuple", sd1, .seq #[.int (1) su1, .int (0) sv1] sn1, ss1⟩)
    (s2 : K.lookup sB2 = some ⟨.type "tuple", sd2, .seq #[.int (0) su2, .int (-1) sv2] sn2, ss2⟩)
    (s3 : K.lookup sB3 = some ⟨.type "tuple", sd3, .seq #[.int (-1) su3, .int (0) sv3] sn3, ss3⟩)
    (oa : PySem.W.nsIn K mainGlobals "onward" = some (some (.ref oF)))
    (ol : K.lookup oF = some ⟨ooc, ood, .func (PySem.W.fnOf "onward" "onward" (defArgs s_onward) (defBody s_onward) (defScope s_onward) .none (.ref oD) odc opm oan ocd oct), osl⟩)
    (oc : PySem.W.codeIn K ocd "onward" = true)
    (ok : PySem.W.keepIn K (.ref oF) = true)
    (od : PySem.W.nsIn K oD "steps" = some (some (.int 1 otk)))
    : ∃ fd : FuncData, (∀ (s : Shared) (v : Value), BindsTo s fd ⟨[v], []⟩ [("_law_script", v)]) ∧ ∀ base : Heap, K.In base → base.Ns mainGlobals mg → FnOk l.prog w K mg base CX0 3 fa fd ["_law_script"] (spLaw K) := by
  have e := hfa.symm.trans (PySem.W.mg_of X G a7)
  cases e
  have FO : FunD K "onward" "onward" (defArgs s_onward) (defBody s_onward) (defScope s_onward) [] [("steps", .int 1)] oF (PySem.W.fnOf "onward" "onward" (defArgs s_onward) (defBody s_onward) (defScope s_onward) .none (.ref oD) odc opm oan ocd oct) :=
    ⟨⟨_, _, _, _, _, _, _, _, _, _, rfl, ol, oc, .inl ⟨rfl, rfl⟩, .inr ⟨oD, rfl, fun q hq => by
      cases List.mem_singleton.mp hq
      exact ⟨_, od, ⟨_, rfl⟩⟩⟩⟩, ok⟩
  obtain ⟨mv1, okb1⟩ := FO.kbinds0 (ps := ["square", "way", "steps"]) 2 ["steps"] [] (fun us _ ws => us ++ ws) (by simp) (fun q hq => by cases hq) (fun r1 _ r3 => r1.append r3) (fun D doc pm an cdv ct us mv ws h1 h2 h3 => match us, mv, ws, h1, h2, h3 with
    | [_, _], [], [_], _, _, _ => rfl)
  obtain ⟨mv2, okb2⟩ := FO.kbinds0 (ps := ["square", "way", "steps"]) 0 ["way", "square"] [("steps", .int 1)] (fun _ mv ws => swap2 ws ++ mv) (by simp) (fun q hq => hq) (fun _ r2 r3 => (vals_swap2 r3).append r2) (fun D doc pm an cdv ct us mv ws h1 h2 h3 => match us, mv, ws, h1, h2, h3 with
    | [], [_], [_, _], _, _, _ => ⟨_, _, _, _, _, _, rfl, rfl, rfl⟩)

  have T : Txt K w mg := { f_way_on := f0, fd_way_on := _, F_way_on := fun_mk (st := s_way_on) l0 c0 k0, b_way_on := (fun_mk (st := s_way_on) l0 c0 k0).binds (ps := ["way", "shape"]) (fun _ _ _ _ _ _ us hl => match us, hl with | [_, _], _ => rfl), g_way_on := PySem.W.mg_of X G a0, f_way_behind := f1, fd_way_behind := _, F_way_behind := fun_mk (st := s_way_behind) l1 c1 k1, b_way_behind := (fun_mk (st := s_way_behind) l1 c1 k1).binds (ps := ["way", "shape"]) (fun _ _ _ _ _ _ us hl => match us, hl with | [_, _], _ => rfl), g_way_behind := PySem.W.mg_of X G a1, f__law_box := f3, fd__law_box := _, F__law_box := fun_mk (st := s__law_box) l3 c3 k3, b__law_box := (fun_mk (st := s__law_box) l3 c3 k3).binds (ps := ["_law_script", "_law_k"]) (fun _ _ _ _ _ _ us hl => match us, hl with | [_, _], _ => rfl), g__law_box := PySem.W.mg_of X G a3, f__law_take := f4, fd__law_take := _, F__law_take := fun_mk (st := s__law_take) l4 c4 k4, b__law_take := (fun_mk (st := s__law_take) l4 c4 k4).binds (ps := ["_law_box_here", "_law_many"]) (fun _ _ _ _ _ _ us hl => match us, hl with | [_, _], _ => rfl), g__law_take := PySem.W.mg_of X G a4, f__law_compass := f5, fd__law_compass := _, F__law_compass := fun_mk (st := s__law_compass) l5 c5 k5, b__law_compass := (fun_mk (st := s__law_compass) l5 c5 k5).binds (ps := ["_law_here", "_law_form"]) (fun _ _ _ _ _ _ us hl => match us, hl with | [_, _], _ => rfl), g__law_compass := PySem.W.mg_of X G a5, f__law_right := f6, fd__law_right := _, F__law_right := fun_mk (st := s__law_right) l6 c6 k6, b__law_right := (fun_mk (st := s__law_right) l6 c6 k6).binds (ps := ["_law_spot", "_law_here", "_law_far"]) (fun _ _ _ _ _ _ us hl => match us, hl with | [_, _, _], _ => rfl), g__law_right := PySem.W.mg_of X G a6, m_int := PySem.W.mg_none_of X G z0, m_isinstance := PySem.W.mg_none_of X G z1, m_len := PySem.W.mg_none_of X G z2, m_max := PySem.W.mg_none_of X G z3, m_min := PySem.W.mg_none_of X G z4, m_range := PySem.W.mg_none_of X G z5, m_repr := PySem.W.mg_none_of X G z6, m_tuple := PySem.W.mg_none_of X G z7, a_TURNS := tA, g_TURNS := PySem.W.mg_of X G ta, TURNS := fun s => match s with | .l => ⟨tes, tnn, _, tl, tk, t1, ⟨_, rfl⟩⟩ | .s => ⟨tes, tnn, _, tl, tk, t2, ⟨_, rfl⟩⟩ | .r => ⟨tes, tnn, _, tl, tk, t3, ⟨_, rfl⟩⟩, a_STEPS := sA, g_STEPS := PySem.W.mg_of X G sa, STEPS := fun H => .tup (xs := [.ref sB0, .ref sB1, .ref sB2, .ref sB3]) (.inr ⟨_, _, _, sl, rfl, rfl, (show 4 ≤ sizeLine by decide), .cons rfl (.cons rfl (.cons rfl (.cons rfl .nil)))⟩) (.cons (.tup (xs := [.int (0), .int (1)]) (.inr ⟨_, _, _, s0, rfl, rfl, (show 2 ≤ sizeLine by decide), .cons ⟨_, rfl⟩ (.cons ⟨_, rfl⟩ .nil)⟩) (.cons (.int (0)) (.cons (.int (1)) .nil))) (.cons (.tup (xs := [.int (1), .int (0)]) (.inr ⟨_, _, _, s1, rfl, rfl, (show 2 ≤ sizeLine by decide), .cons ⟨_, rfl⟩ (.cons ⟨_, rfl⟩ .nil)⟩) (.cons (.int (1)) (.cons (.int (0)) .nil))) (.cons (.tup (xs := [.int (0), .int (-1)]) (.inr ⟨_, _, _, s2, rfl, rfl, (show 2 ≤ sizeLine by decide), .cons ⟨_, rfl⟩ (.cons ⟨_, rfl⟩ .nil)⟩) (.cons (.int (0)) (.cons (.int (-1)) .nil))) (.cons (.tup (xs := [.int (-1), .int (0)]) (.inr ⟨_, _, _, s3, rfl, rfl, (show 2 ≤ sizeLine by decide), .cons ⟨_, rfl⟩ (.cons ⟨_, rfl⟩ .nil)⟩) (.cons (.int (-1)) (.cons (.int (0)) .nil))) .nil)))), f_onward := oF, fd_onward := _, F_onward := FO, mv1_onward := mv1, kb1_onward := okb1, mv2_onward := mv2, kb2_onward := okb2, g_onward := PySem.W.mg_of X G oa, kb_way_on := ⟨fun s us ws X h1 h2 => .of_eq (match us, ws, h1, h2 with | [], [_, _], _, _ => rfl), fun _ r => vals_swap2 r⟩, kb_way_behind := ⟨fun s us ws X h1 h2 => .of_eq (match us, ws, h1, h2 with | [], [_, _], _, _ => rfl), fun _ r => vals_swap2 r⟩ }
  exact ⟨PySem.W.fnOf "law" "law" (defArgs s_law) (defBody s_law) (defScope s_law) .none kV7 dc7 pm7 an7 cd7 ct7, fun s v => .of_eq rfl, fun base _ _ => ok_law T (fun_mk (st := s_law) l7 c7 k7)⟩
end K02
open PySem PySem.W PyProof.Rows
set_option maxHeartbeats 0 in
theorem PySem.Challenge.cw_ownrail_k02_ways_and_steps_holds : PySem.Challenge.rw_ownrail_k02_ways_and_steps.Holds := by
  w_on; o_law; k_head; (case hw => w_witness2)
  k_fill
  refine L2.walk_of (l := PySem.Challenge.rw_ownrail_k02_ways_and_steps) (n := 63) (k := 3) (x := "_law_script") (CX := fun _ => L2.CX0) (sp := fun w => OR.spLaw _) rfl (by decide) rfl ⟨rfl, by decide, by decide⟩ (fun w h Y => PySem.W.kIn_of Y) ?F (fun _ _ a ns hl _ hS => ⟨a, ns, rfl, hS, hl, fun _ => rfl⟩) (fun _ _ _ _ _ h => h)
  case F =>
    intro w mg fa h KX G hmg
    refine' K02.all_mk KX G hmg ?a0 ?l0 ?c0 ?k0 ?a1 ?l1 ?c1 ?k1 ?a3 ?l3 ?c3 ?k3 ?a4 ?l4 ?c4 ?k4 ?a5 ?l5 ?c5 ?k5 ?a6 ?l6 ?c6 ?k6 ?a7 ?l7 ?c7 ?k7 ?z0 ?z1 ?z2 ?z3 ?z4 ?z5 ?z6 ?z7 ?ta ?tl ?tk ?t1 ?t2 ?t3 ?sa ?sl ?s0 ?s1 ?s2 ?s3 ?oa ?ol ?oc ?ok ?od
    (case a0 => k_is)
    (case l0 => k_is)
    (case c0 => k_is)
    (case k0 => k_is)
    (case a1 => k_is)
    (case l1 => k_is)
    (case c1 => k_is)
    (case k1 => k_is)
    (case a3 => k_is)
    (case l3 => k_is)
    (case c3 => k_is)
    (case k3 => k_is)
    (case a4 => k_is)
    (case l4 => k_is)
    (case c4 => k_is)
    (case k4 => k_is)
    (case a5 => k_is)
    (case l5 => k_is)
    (case c5 => k_is)
    (case k5 => k_is)
    (case a6 => k_is)
    (case l6 => k_is)
    (case c6 => k_is)
    (case k6 => k_is)
    (case a7 => k_is)
    (case l7 => k_is)
    (case c7 => k_is)
    (case k7 => k_is)
    (case z0 => k_is)
    (case z1 => k_is)
    (case z2 => k_is)
    (case z3 => k_is)
    (case z4 => k_is)
    (case z5 => k_is)
    (case z6 => k_is)
    (case z7 => k_is)
    (case ta => k_is)
    (case tl => k_is)
    (case tk => k_keys)
    (case t1 => k_is)
    (case t2 => k_is)
    (case t3 => k_is)
    (case sa => k_is)
    (case sl => k_is)
    (case s0 => k_is)
    (case s1 => k_is)
    (case s2 => k_is)
    (case s3 => k_is)
    (case oa => k_is)
    (case ol => k_is)
    (case oc => k_is)
    (case ok => k_is)
    (case od => k_is)
