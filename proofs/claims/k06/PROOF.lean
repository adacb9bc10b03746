import PyProof.Rows.All
import Wide.All
import OpenK.AllK
import Wide.FinOn
import HandS.ForMost
import HandS.Wide
import HandS.Deep
import HandS.Zip
import HandS.IsInst
import HandS.Defaults
import HandS.More
import HandS.Style
import HandS.Evl
import HandS.TupAny
import HandS.MakeKwOnly
import HandS.RaiseMore
import HandS.Replace
import HandS.Walk
import PySem.Challenge.RW_ownrail_k06_whole_gone_on_it_keeps_its_r
set_option Elab.async false
set_option linter.all false
set_option maxRecDepth 100000
set_option maxHeartbeats 4000000
/-! what every proof here leans on: data made of tuples, which no store can change -/
namespace OR
open PySem PySem.Spec PyProof.Rows L2

theorem hu65 {A : Around} {k : Nat} (hr : Room k A) : A.units + 65 < cLine := by
  have := hr.un
  omega

/-! ### tuples stay -/
def Tk (H H' : Hp) : Prop := ∀ a xs, Rd H a (.tup xs) → Rd H' a (.tup xs)
theorem Tk.refl (H : Hp) : Tk H H := fun _ _ h => h
theorem Tk.trans {H H1 H2 : Hp} (a : Tk H H1) (b : Tk H1 H2) : Tk H H2 := fun x o h => b x o (a x o h)
theorem tk_same {H H' : Hp} (e : Same H H') : Tk H H' := fun a xs h => by
  rcases h with h | ⟨o, h⟩
  · exact .inl (e _ _ h)
  · exact .inr ⟨o, e _ _ h⟩
theorem tk_seq {K : PySem.W.Frag} {H H' : Hp} {a : Addr} {xs : List V} (e : Tk H H') (h : SqT K H a xs) : SqT K H' a xs := by
  rcases h with h | h
  · exact .inl (e _ _ h)
  · exact .inr h
theorem same_new {H : Hp} {p : Addr} {o : HO} (h : H p = none) : Same H (upd H p o) := fun b x e => by
  rw [upd_ne (ne_of_none e h)]
  exact e
theorem tk_new {H : Hp} {p : Addr} {o : HO} (h : H p = none) : Tk H (upd H p o) := tk_same (same_new h)
/-- all but the object at b is as it was -/
def But (b : Addr) (H H' : Hp) : Prop := ∀ a o, a ≠ b → H a = some o → H' a = some o
theorem But.refl (b : Addr) (H : Hp) : But b H H := fun _ _ _ h => h
theorem But.trans {b : Addr} {H H1 H2 : Hp} (x : But b H H1) (y : But b H1 H2) : But b H H2 := fun a o n h => y a o n (x a o n h)
theorem but_same {b : Addr} {H H' : Hp} (e : Same H H') : But b H H' := fun a o _ h => e a o h
theorem but_set {b : Addr} {H : Hp} {o : HO} : But b H (upd H b o) := fun a u n h => by
  rw [upd_ne n]
  exact h
theorem tk_set {H : Hp} {b : Addr} {xs : List V} {o : HO} (hb : H b = some (.lst xs)) : Tk H (upd H b o) := fun a ys h => by
  have n : a ≠ b := fun z => by
    subst z
    rcases h with h | ⟨u, h⟩
    · rw [hb] at h
      cases h
    · rw [hb] at h
      cases h
  rcases h with h | ⟨u, h⟩
  · exact .inl (by rw [upd_ne n]; exact h)
  · exact .inr ⟨u, by rw [upd_ne n]; exact h⟩
theorem tk_but {H H' : Hp} {b : Addr} {xs : List V} (hb : H b = some (.lst xs)) (e : But b H H') : Tk H H' := fun a ys h => by
  have n : a ≠ b := fun z => by
    subst z
    rcases h with h | ⟨u, h⟩
    · rw [hb] at h
      cases h
    · rw [hb] at h
      cases h
  rcases h with h | ⟨u, h⟩
  · exact .inl (e _ _ n h)
  · exact .inr ⟨u, e _ _ n h⟩

/-! ### data of tuples, ints, texts, truths, None -/
mutual
inductive DT (K : PySem.W.Frag) (H : Hp) : V → PyData → Prop
  | non : DT K H .non .none
  | bl (b : Bool) : DT K H (.bl b) (.bool b)
  | int (i : Int) : DT K H (.int i) (.int i)
  | str (x : Str) : DT K H (.str x) (.str x)
  | tup {a : Addr} {xs : List V} {ds : List PyData} : SqT K H a xs → DTs K H xs ds → DT K H (.ref a) (.tuple ds)
inductive DTs (K : PySem.W.Frag) (H : Hp) : List V → List PyData → Prop
  | nil : DTs K H [] []
  | cons {v : V} {vs : List V} {d : PyData} {ds : List PyData} : DT K H v d → DTs K H vs ds → DTs K H (v :: vs) (d :: ds)
end
section
variable {K : PySem.W.Frag} {H H' : Hp}
mutual
theorem DT.mono (e : Tk H H') : ∀ (d : PyData) (v : V), DT K H v d → DT K H' v d
  | .none, _, h => by cases h; exact .non
  | .bool b, _, h => by cases h; exact .bl b
  | .int i, _, h => by cases h; exact .int i
  | .str x, _, h => by cases h; exact .str x
  | .tuple ds, _, h => by
    cases h with
    | tup hs ha => exact .tup (tk_seq e hs) (DTs.mono e ds _ ha)
  | .list _, _, h => by cases h
  | .dict _, _, h => by cases h
theorem DTs.mono (e : Tk H H') : ∀ (ds : List PyData) (vs : List V), DTs K H vs ds → DTs K H' vs ds
  | [], _, h => by cases h; exact .nil
  | d :: ds, _, h => by
    cases h with
    | cons h1 h2 => exact .cons (DT.mono e d _ h1) (DTs.mono e ds _ h2)
end
mutual
theorem DT.dp : ∀ (d : PyData) (v : V), DT K H v d → Dp K H v d
  | .none, _, h => by cases h; exact .non
  | .bool b, _, h => by cases h; exact .bl b
  | .int i, _, h => by cases h; exact .int i
  | .str x, _, h => by cases h; exact .str x
  | .tuple ds, _, h => by
    cases h with
    | tup hs ha => exact .tup hs (DTs.dp ds _ ha)
  | .list _, _, h => by cases h
  | .dict _, _, h => by cases h
theorem DTs.dp : ∀ (ds : List PyData) (vs : List V), DTs K H vs ds → DpAll K H vs ds
  | [], _, h => by cases h; exact .nil
  | d :: ds, _, h => by
    cases h with
    | cons h1 h2 => exact .cons (DT.dp d _ h1) (DTs.dp ds _ h2)
end
theorem DT.up {v : V} {d : PyData} (h : DT K H v d) (e : Tk H H') : DT K H' v d := DT.mono e d v h
theorem DTs.up {vs : List V} {ds : List PyData} (h : DTs K H vs ds) (e : Tk H H') : DTs K H' vs ds := DTs.mono e ds vs h
theorem DTs.length {vs : List V} : ∀ {ds : List PyData}, DTs K H vs ds → vs.length = ds.length := by
  induction vs with
  | nil => intro ds h; cases h; rfl
  | cons v vs ih =>
    intro ds h
    cases h with
    | cons h1 h2 => rw [List.length_cons, List.length_cons, ih h2]
theorem DTs.get {vs : List V} : ∀ {ds : List PyData} {i : Nat} {d : PyData}, DTs K H vs ds → ds[i]? = some d → ∃ v, vs[i]? = some v ∧ DT K H v d := by
  induction vs with
  | nil => intro ds i d h e; cases h; simp at e
  | cons v vs ih =>
    intro ds i d h e
    cases h with
    | cons h1 h2 =>
      cases i with
      | zero => simp at e; subst e; exact ⟨v, rfl, h1⟩
      | succ i =>
        obtain ⟨u, q1, q2⟩ := ih h2 (i := i) (d := d) (by simpa using e)
        exact ⟨u, by simpa using q1, q2⟩
theorem DTs.getV {vs : List V} : ∀ {ds : List PyData} {i : Nat} {v : V}, DTs K H vs ds → vs[i]? = some v → ∃ d, ds[i]? = some d ∧ DT K H v d := by
  induction vs with
  | nil => intro ds i d h e; simp at e
  | cons u vs ih =>
    intro ds i d h e
    cases h with
    | cons h1 h2 =>
      cases i with
      | zero => simp at e; subst e; exact ⟨_, rfl, h1⟩
      | succ i =>
        obtain ⟨u, q1, q2⟩ := ih h2 (i := i) (v := d) (by simpa using e)
        exact ⟨u, by simpa using q1, q2⟩
theorem DTs.append {vs ws : List V} {ds es : List PyData} (h : DTs K H vs ds) (h2 : DTs K H ws es) : DTs K H (vs ++ ws) (ds ++ es) := by
  induction vs generalizing ds with
  | nil => cases h; exact h2
  | cons v vs ih =>
    cases h with
    | cons a b => exact .cons a (ih b)
theorem DTs.take {vs : List V} {ds : List PyData} (n : Nat) (h : DTs K H vs ds) : DTs K H (vs.take n) (ds.take n) := by
  induction vs generalizing ds n with
  | nil => cases h; rw [List.take_nil, List.take_nil]; exact .nil
  | cons v vs ih =>
    cases h with
    | cons a b =>
      cases n with
      | zero => exact .nil
      | succ n => exact .cons a (ih n b)
theorem DTs.drop {vs : List V} {ds : List PyData} (n : Nat) (h : DTs K H vs ds) : DTs K H (vs.drop n) (ds.drop n) := by
  induction vs generalizing ds n with
  | nil => cases h; rw [List.drop_nil, List.drop_nil]; exact .nil
  | cons v vs ih =>
    cases h with
    | cons a b =>
      cases n with
      | zero => exact .cons a b
      | succ n => exact ih n b
theorem DT.tupOf {v : V} {ds : List PyData} (h : DT K H v (.tuple ds)) : ∃ a xs, v = .ref a ∧ SqT K H a xs ∧ DTs K H xs ds := by
  cases h with
  | tup hs ha => exact ⟨_, _, rfl, hs, ha⟩
theorem DT.intOf {v : V} {i : Int} (h : DT K H v (.int i)) : v = .int i := by cases h; rfl
theorem DT.strOf {v : V} {i : Str} (h : DT K H v (.str i)) : v = .str i := by cases h; rfl
theorem DT.blOf {v : V} {i : Bool} (h : DT K H v (.bool i)) : v = .bl i := by cases h; rfl
theorem DTs.one {vs : List V} {d : PyData} (h : DTs K H vs [d]) : ∃ v, vs = [v] ∧ DT K H v d := by
  cases h with
  | cons a b => cases b; exact ⟨_, rfl, a⟩
theorem DTs.two {vs : List V} {d e : PyData} (h : DTs K H vs [d, e]) : ∃ v u, vs = [v, u] ∧ DT K H v d ∧ DT K H u e := by
  cases h with
  | cons a b =>
    obtain ⟨u, rfl, q⟩ := b.one
    exact ⟨_, u, rfl, a, q⟩
theorem DTs.five {vs : List V} {a b c d e : PyData} (h : DTs K H vs [a, b, c, d, e]) : ∃ v1 v2 v3 v4 v5, vs = [v1, v2, v3, v4, v5] ∧ DT K H v1 a ∧ DT K H v2 b ∧ DT K H v3 c ∧ DT K H v4 d ∧ DT K H v5 e := by
  cases h with
  | cons h1 h => cases h with
    | cons h2 h => cases h with
      | cons h3 h =>
        obtain ⟨v4, v5, rfl, h4, h5⟩ := h.two
        exact ⟨_, _, _, _, _, rfl, h1, h2, h3, h4, h5⟩
theorem DT.new {p : Addr} {xs : List V} {ds : List PyData} (h : DTs K H xs ds) (n : H p = none) : DT K (upd H p (.tup xs)) (.ref p) (.tuple ds) := .tup (SqT.of upd_same) (h.up (tk_new n))
end

/-! ### squares, rails, engines -/
inductive Sh where
  | l | s | r
  deriving DecidableEq
def Sh.str : Sh → Str
  | .l => "l"
  | .s => "s"
  | .r => "r"
def Sh.t : Sh → Int
  | .l => -1
  | .s => 0
  | .r => 1
def sq (p : Int × Int) : PyData := .tuple [.int p.1, .int p.2]
def rail (r : Sh × Int) : PyData := .tuple [.str r.1.str, .int r.2]
def eng (x y way look : Int) (rs : List (Sh × Int)) : PyData := .tuple [.int x, .int y, .int way, .int look, .tuple (rs.map rail)]
def tn (w : Int) (s : Sh) : Int := (w + s.t) % 4
def tb (w : Int) (s : Sh) : Int := (w - s.t) % 4
def dx (w : Int) : Int := if w = 1 then 1 else if w = 3 then -1 else 0
def dy (w : Int) : Int := if w = 0 then 1 else if w = 2 then -1 else 0
def on (p : Int × Int) (w : Int) : Int × Int := (p.1 + dx w, p.2 + dy w)
theorem tn_lo (w : Int) (s : Sh) : 0 ≤ tn w s := Int.emod_nonneg _ (by decide)
theorem tn_hi (w : Int) (s : Sh) : tn w s ≤ 3 := by
  have h : (w + s.t) % 4 < 4 := Int.emod_lt_of_pos _ (by decide)
  unfold tn
  omega
theorem tb_lo (w : Int) (s : Sh) : 0 ≤ tb w s := Int.emod_nonneg _ (by decide)
theorem tb_hi (w : Int) (s : Sh) : tb w s ≤ 3 := by
  have h : (w - s.t) % 4 < 4 := Int.emod_lt_of_pos _ (by decide)
  unfold tb
  omega
theorem way4 {w : Int} (h0 : 0 ≤ w) (h3 : w ≤ 3) : w = 0 ∨ w = 1 ∨ w = 2 ∨ w = 3 := by omega

/-! ### a law's box -/
def Box (H : Hp) (b : Addr) : Prop := ∃ i s c : Int, H b = some (.lst [.int i, .int s, .int c])
def spTake : Sp := fun vs H Q _ => ∃ (b : Addr) (m : Int), vs = [.ref b, .int m] ∧ Box H b ∧ 0 < m ∧ m < 2 ^ 64 ∧ ∀ r H', 0 ≤ r → r < m → But b H H' → Box H' b → Q (.int r) H'
def spBox (K : PySem.W.Frag) : Sp := fun vs H Q _ => ∃ (a : Addr) (ns : List Int) (k : Int), vs = [.ref a, .int k] ∧ SqL K H a (ns.map V.int) ∧ 0 ≤ k ∧ k < 2 ^ 60 ∧ ∀ b H', H b = none → Same H H' → Box H' b → Q (.ref b) H'
theorem mod_in {a m : Int} (h : 0 < m) : 0 ≤ a % m ∧ a % m < m := ⟨Int.emod_nonneg _ (by omega), Int.emod_lt_of_pos _ h⟩
theorem div_ok {i m : Int} (h : 0 < m) (h2 : m < 2 ^ 64) : CDivW i m := wide_div (b := 64) h (by omega) (by decide) (by decide)
theorem But.up {b : Addr} {H H' : Hp} {v : V} {d : PyData} {K : PySem.W.Frag} (e : But b H H') (hb : Box H b) (h : DT K H v d) : DT K H' v d := by
  obtain ⟨i, s, c, hb⟩ := hb
  exact h.up (tk_but hb e)
theorem atI_ints {ns : List Int} {k : Int} (h0 : 0 ≤ k) (h : k < (ns.length : Int)) : ∃ z, atI (ns.map V.int) k = some (.int z) := by
  obtain ⟨j, rfl⟩ := Int.eq_ofNat_of_zero_le h0
  have hj : j < ns.length := by omega
  exact ⟨ns[j], atI_nat (by rw [List.getElem?_map, List.getElem?_eq_getElem hj]; rfl)⟩

/-! ### == of squares -/
theorem eqv_sq (p q : Int × Int) : PyData.eqv (sq p) (sq q) = decide (p = q) := by
  obtain ⟨a, b⟩ := p
  obtain ⟨c, d⟩ := q
  simp only [sq, PyData.eqv, PyData.eqvAll, Bool.and_true]
  by_cases h : (a, b) = (c, d)
  · cases h
    simp
  · rw [decide_eq_false h]
    rw [Bool.and_eq_false_iff]
    by_cases h1 : a = c
    · right
      subst h1
      have : b ≠ d := fun z => h (by rw [z])
      simpa using this
    · left
      simpa using h1
theorem any_sq (p : Int × Int) : ∀ qs : List (Int × Int), ((qs.map sq).any fun z => PyData.eqv z (sq p)) = decide (p ∈ qs)
  | [] => by simp
  | q :: qs => by
    rw [List.map_cons, List.any_cons, any_sq p qs, eqv_sq]
    by_cases h : q = p
    · subst h
      simp
    · have h' : ¬ p = q := fun z => h z.symm
      simp [h, h']
theorem lay_sq (p : Int × Int) : (sq p).canLay0 = true := rfl
theorem lay_sqs : ∀ qs : List (Int × Int), PyData.canLayAll0 (qs.map sq) = true
  | [] => rfl
  | q :: qs => by
    rw [List.map_cons, PyData.canLayAll0, lay_sq, lay_sqs qs]
    rfl
theorem dep_sqs : ∀ qs : List (Int × Int), PyData.depthAll (qs.map sq) ≤ 3
  | [] => by simp [PyData.depthAll]
  | q :: qs => by
    have h := dep_sqs qs
    rw [List.map_cons, PyData.depthAll]
    have h2 : (sq q).depth ≤ 3 := by simp [sq, PyData.depth, PyData.depthAll]
    omega
theorem shaped_sq (p : Int × Int) : SeqAt.shaped (sq p) = true := by
  obtain ⟨a, b⟩ := p
  simp [SeqAt.shaped, sq, PyData.canLay0, PyData.canLayAll0, PyData.depth, PyData.depthAll]
theorem shaped_sqs (qs : List (Int × Int)) : SeqAt.shaped (.list (qs.map sq)) = true := by
  have h := dep_sqs qs
  have h2 := lay_sqs qs
  unfold SeqAt.shaped
  rw [PyData.canLay0, h2, PyData.depth, decide_eq_true (by omega)]
  rfl

/-! ### the road walked -/
def wst (x y w : Int) (rs : List (Sh × Int)) : List (Int × Int) × Int := rs.foldl (fun a r => (a.1 ++ [on (a.1.getLastD (0, 0)) (tn a.2 r.1)], tn a.2 r.1)) ([(x, y)], w)
theorem wst_snoc (x y w : Int) (rs : List (Sh × Int)) (r : Sh × Int) : wst x y w (rs ++ [r]) = ((wst x y w rs).1 ++ [on ((wst x y w rs).1.getLastD (0, 0)) (tn (wst x y w rs).2 r.1)], tn (wst x y w rs).2 r.1) := by
  unfold wst
  rw [List.foldl_append]
  rfl
theorem getLastD_snoc {α : Type} (l : List α) (a d : α) : (l ++ [a]).getLastD d = a := by
  rw [List.getLastD_eq_getLast?, List.getLast?_concat]
  rfl
/-- an engine as a law draws it -/
structure Drawn (x y w look : Int) (rs : List (Sh × Int)) : Prop where
  w0 : 0 ≤ w
  w3 : w ≤ 3
  lk : look = 1 ∨ look = -1
  ne : rs ≠ []
  ln : rs.length ≤ 12
  col : ∀ r ∈ rs, 0 ≤ r.2 ∧ r.2 ≤ 9
  nd : ((wst x y w rs).1.dropLast).Nodup
def spTurn : Sp := fun vs H Q _ => ∃ (w : Int) (s : Sh), vs = [.int w, .str s.str] ∧ ∀ H', Same H H' → Q (.int (tn w s)) H'
def spOn (K : PySem.W.Frag) : Sp := fun vs H Q _ => ∃ (v : V) (p : Int × Int) (w : Int), vs = [v, .int w] ∧ DT K H v (sq p) ∧ 0 ≤ w ∧ w ≤ 3 ∧ ∀ v' H', Same H H' → DT K H' v' (sq (on p w)) → Q v' H'
def spEngine (K : PySem.W.Frag) : Sp := fun vs H Q _ => ∃ (b : Addr) (m far : Int), vs = [.ref b, .int m, .int far] ∧ Box H b ∧ 0 < m ∧ m ≤ 12 ∧ 0 ≤ far ∧ far ≤ 1000000000 ∧
  ∀ v H' x y w look rs, Drawn x y w look rs → -far ≤ x → x ≤ far → -far ≤ y → y ≤ far → (rs.length : Int) ≤ m → But b H H' → Box H' b → DT K H' v (eng x y w look rs) → Q v H'
def t3 : Sh → Int
  | .l => 3
  | .s => 0
  | .r => 1
theorem t3_tn (w : Int) (s : Sh) : (w + t3 s) % 4 = tn w s := by
  cases s <;> simp only [t3, tn, Sh.t] <;> omega
def shOf (k : Int) : Sh := if k = 0 then .l else if k = 2 then .r else .s
theorem pick4 {r : Int} (h0 : 0 ≤ r) (h1 : r < 4) : ∃ c, atI ("lsrs" : Str).cps.toList r = some c ∧ (⟨#[c]⟩ : Str) = (shOf r).str := by
  have h : r = 0 ∨ r = 1 ∨ r = 2 ∨ r = 3 := by omega
  rcases h with rfl | rfl | rfl | rfl
  · exact ⟨108, by decide +kernel, by decide +kernel⟩
  · exact ⟨115, by decide +kernel, by decide +kernel⟩
  · exact ⟨114, by decide +kernel, by decide +kernel⟩
  · exact ⟨115, by decide +kernel, by decide +kernel⟩
structure EngInv (K : PySem.W.Frag) (b p1 p2 : Addr) (H H' : Hp) (x y w : Int) (i : Nat) (rs : List (Sh × Int)) (qs : List (Int × Int)) (here : Int × Int) (ahead : Int) (vh : V) (xs ys : List V) : Prop where
  dh : DT K H' vh (sq here)
  h1 : H' p1 = some (.lst xs)
  d1 : DTs K H' xs (rs.map rail)
  h2 : H' p2 = some (.lst ys)
  d2 : DTs K H' ys (qs.map sq)
  bx : Box H' b
  bt : But b H H'
  ln : rs.length ≤ i
  ne : 1 ≤ i → rs ≠ []
  z : i = 0 → qs = []
  ws : wst x y w rs = (qs ++ [here], ahead)
  nd : qs.Nodup
  col : ∀ r ∈ rs, 0 ≤ r.2 ∧ r.2 ≤ 9
  lq : qs.length = rs.length
theorem EngInv.but {K : PySem.W.Frag} {b p1 p2 : Addr} {H H' H2 : Hp} {x y w : Int} {i : Nat} {rs : List (Sh × Int)} {qs : List (Int × Int)} {here : Int × Int} {ahead : Int} {vh : V} {xs ys : List V}
    (I : EngInv K b p1 p2 H H' x y w i rs qs here ahead vh xs ys) (e : But b H' H2) (hb : Box H2 b) (n1 : p1 ≠ b) (n2 : p2 ≠ b) : EngInv K b p1 p2 H H2 x y w i rs qs here ahead vh xs ys := by
  obtain ⟨_, _, _, h0⟩ := I.bx
  have t := tk_but h0 e
  exact ⟨I.dh.up t, e _ _ n1 I.h1, I.d1.up t, e _ _ n2 I.h2, I.d2.up t, hb, I.bt.trans e, I.ln, I.ne, I.z, I.ws, I.nd, I.col, I.lq⟩
theorem EngInv.skip {K : PySem.W.Frag} {b p1 p2 : Addr} {H H' : Hp} {x y w : Int} {i : Nat} {rs : List (Sh × Int)} {qs : List (Int × Int)} {here : Int × Int} {ahead : Int} {vh : V} {xs ys : List V}
    (I : EngInv K b p1 p2 H H' x y w i rs qs here ahead vh xs ys) (hm : here ∈ qs) : EngInv K b p1 p2 H H' x y w (i + 1) rs qs here ahead vh xs ys := by
  refine ⟨I.dh, I.h1, I.d1, I.h2, I.d2, I.bx, I.bt, Nat.le_succ_of_le I.ln, fun _ => ?_, fun z => by omega, I.ws, I.nd, I.col, I.lq⟩
  by_cases h : i = 0
  · rw [I.z h] at hm
    cases hm
  · exact I.ne (by omega)
theorem EngInv.go {K : PySem.W.Frag} {b p1 p2 t : Addr} {H H' H2 : Hp} {x y w c : Int} {sh : Sh} {i : Nat} {rs : List (Sh × Int)} {qs : List (Int × Int)} {here : Int × Int} {ahead : Int} {vh v2 : V} {xs ys : List V}
    (I : EngInv K b p1 p2 H H' x y w i rs qs here ahead vh xs ys) (hm : ¬ here ∈ qs) (nt : H' t = none) (n1 : p1 ≠ b) (n2 : p2 ≠ b) (n21 : p2 ≠ p1) (f1 : H p1 = none) (f2 : H p2 = none) (c0 : 0 ≤ c) (c9 : c ≤ 9)
    (e : Same (upd (upd (upd H' t (.tup [.str sh.str, .int c])) p1 (.lst (xs ++ [.ref t]))) p2 (.lst (ys ++ [vh]))) H2) (d2 : DT K H2 v2 (sq (on here (tn ahead sh)))) :
    EngInv K b p1 p2 H H2 x y w (i + 1) (rs ++ [(sh, c)]) (qs ++ [here]) (on here (tn ahead sh)) (tn ahead sh) v2 (xs ++ [.ref t]) (ys ++ [vh]) := by
  have t1 : p1 ≠ t := ne_of_none I.h1 nt
  have t2 : p2 ≠ t := ne_of_none I.h2 nt
  have k1 : Tk H' (upd H' t (.tup [.str sh.str, .int c])) := tk_new nt
  have k2 : Tk (upd H' t (.tup [.str sh.str, .int c])) (upd (upd H' t (.tup [.str sh.str, .int c])) p1 (.lst (xs ++ [.ref t]))) := tk_set (by rw [upd_ne t1]; exact I.h1)
  have k3 : Tk (upd (upd H' t (.tup [.str sh.str, .int c])) p1 (.lst (xs ++ [.ref t]))) (upd (upd (upd H' t (.tup [.str sh.str, .int c])) p1 (.lst (xs ++ [.ref t]))) p2 (.lst (ys ++ [vh]))) := tk_set (by rw [upd_ne n21, upd_ne t2]; exact I.h2)
  have k := (k2.trans k3).trans (tk_same e)
  have kk := k1.trans k
  refine ⟨d2, e _ _ (by rw [upd_ne n21.symm, upd_same]), ?_, e _ _ upd_same, ?_, ?_, ?_, ?_, fun _ => by simp, fun z => by omega, ?_, nd_snoc I.nd hm, ?_, ?_⟩
  · rw [List.map_append]
    exact (I.d1.up kk).append (.cons ((DT.new (K := K) (.cons (.str _) (.cons (.int c) .nil)) nt).up k) .nil)
  · rw [List.map_append]
    exact (I.d2.up kk).append (.cons (I.dh.up kk) .nil)
  · obtain ⟨a1, a2, a3, h0⟩ := I.bx
    have bt : b ≠ t := ne_of_none h0 nt
    exact ⟨a1, a2, a3, e _ _ (by rw [upd_ne n2.symm, upd_ne n1.symm, upd_ne bt]; exact h0)⟩
  · intro a o n h
    have h' := I.bt a o n h
    refine e _ _ ?_
    rw [upd_ne (ne_of_none h f2), upd_ne (ne_of_none h f1), upd_ne (ne_of_none h' nt)]
    exact h'
  · rw [List.length_append]
    exact Nat.succ_le_succ I.ln
  · rw [wst_snoc, I.ws]
    dsimp only
    rw [getLastD_snoc]
  · intro r hr
    rcases List.mem_append.mp hr with h | h
    · exact I.col r h
    · cases List.mem_singleton.mp h
      exact ⟨c0, c9⟩
  · rw [List.length_append, List.length_append, I.lq]
    rfl
/-! ### tuples cut, put together, read -/
def cutD (xs : List PyData) (lo hi : Option Int) : List PyData := (xs.drop (HT.sIx xs.length 0 lo)).take (HT.sIx xs.length xs.length hi - HT.sIx xs.length 0 lo)
theorem DTs.cut {K : PySem.W.Frag} {H : Hp} {vs : List V} {ds : List PyData} (lo hi : Option Int) (h : DTs K H vs ds) : DTs K H (cutV vs lo hi) (cutD ds lo hi) := by
  unfold cutV cutD
  rw [h.length]
  exact (h.drop _).take _
theorem r_slA {K : PySem.W.Frag} {H : Hp} {v : V} {ds : List PyData} {lo hi : Option Int} {Q : VK} (h : DT K H v (.tuple ds)) (q : ∀ v' H', Same H H' → DT K H' v' (.tuple (cutD ds lo hi)) → Q v' H') : rSlA K v lo hi H Q := by
  obtain ⟨a, xs, rfl, hs, hx⟩ := h.tupOf
  refine ⟨a, xs, rfl, hs, fun e => ?_, fun _ p np => q _ _ (same_new np) (DT.new (hx.cut lo hi) np)⟩
  have e2 : cutD ds lo hi = ds := by
    unfold cutD
    rw [hx.length] at e
    rw [e.1, e.2, List.drop_zero, Nat.sub_zero, List.take_length]
  refine q _ _ (Same.refl H) ?_
  rw [e2]
  exact .tup hs hx
theorem r_catA {K : PySem.W.Frag} {H : Hp} {v u : V} {ds es : List PyData} {Q : VK} (h : DT K H v (.tuple ds)) (h2 : DT K H u (.tuple es)) (hl : ds.length + es.length ≤ 1000) (q : ∀ v' H', Same H H' → DT K H' v' (.tuple (ds ++ es)) → Q v' H') : rCatA K v u H Q := by
  obtain ⟨a, xs, rfl, hs, hx⟩ := h.tupOf
  obtain ⟨b, ys, rfl, hs2, hy⟩ := h2.tupOf
  refine ⟨a, b, xs, ys, rfl, rfl, hs, hs2, ?_, fun e => ?_, fun _ e => ?_, fun _ _ p np => q _ _ (same_new np) (DT.new (hx.append hy) np)⟩
  · rw [hx.length, hy.length]
    exact Nat.le_of_lt (small1000 hl)
  · subst e
    cases hx
    exact q _ _ (Same.refl H) (.tup hs2 hy)
  · subst e
    cases hy
    refine q _ _ (Same.refl H) ?_
    rw [List.append_nil]
    exact .tup hs hx
theorem atI_map {α β : Type} {xs : List α} {f : α → β} {i : Int} {v : α} (h : atI xs i = some v) : atI (xs.map f) i = some (f v) := by
  obtain ⟨j, h1, h2, h3, h4, h5⟩ := atI_get h
  unfold atI at h ⊢
  rw [List.length_map]
  cases e : ixN xs.length i with
  | none => rw [e] at h; cases h
  | some k =>
    rw [e] at h
    have h' : xs[k]? = some v := h
    show (xs.map f)[k]? = some (f v)
    rw [List.getElem?_map, h']
    rfl
theorem DTs.at {K : PySem.W.Frag} {H : Hp} {vs : List V} {ds : List PyData} {i : Int} {d : PyData} (h : DTs K H vs ds) (e : atI ds i = some d) : ∃ v, atI vs i = some v ∧ DT K H v d := by
  unfold atI at e ⊢
  rw [h.length]
  cases z : ixN ds.length i with
  | none => rw [z] at e; cases e
  | some k =>
    rw [z] at e
    have e' : ds[k]? = some d := e
    obtain ⟨v, h1, h2⟩ := h.get e'
    exact ⟨v, h1, h2⟩
theorem r_ixT {K : PySem.W.Frag} {H : Hp} {v : V} {ds : List PyData} {i : Int} {d : PyData} {Q : VK} (h : DT K H v (.tuple ds)) (e : atI ds i = some d) (q : ∀ v', DT K H v' d → Q v' H) : rIxT K v (.int i) H Q := by
  obtain ⟨a, xs, rfl, hs, hx⟩ := h.tupOf
  obtain ⟨v', h1, h2⟩ := hx.at e
  exact ⟨a, xs, i, v', rfl, rfl, hs, h1, q v' h2⟩
theorem DTs.last {K : PySem.W.Frag} {H : Hp} {vs : List V} {ds : List PyData} {d : PyData} (h : DTs K H vs (ds ++ [d])) : ∃ us u, vs = us ++ [u] ∧ DTs K H us ds ∧ DT K H u d := by
  induction ds generalizing vs with
  | nil =>
    obtain ⟨u, rfl, q⟩ := h.one
    exact ⟨[], u, rfl, .nil, q⟩
  | cons e ds ih =>
    cases h with
    | cons a b =>
      obtain ⟨us, u, rfl, q1, q2⟩ := ih b
      exact ⟨_ :: us, u, rfl, .cons a q1, q2⟩
theorem wst_last (x y w : Int) (rs : List (Sh × Int)) : ∃ L, (wst x y w rs).1 = L ++ [(wst x y w rs).1.getLastD (0, 0)] := by
  have ne : (wst x y w rs).1 ≠ [] := by
    rcases List.eq_nil_or_concat rs with rfl | ⟨r', r, rfl⟩
    · simp [wst]
    · simp [wst_snoc]
  rcases List.eq_nil_or_concat (wst x y w rs).1 with h | ⟨L, a, h⟩
  · exact absurd h ne
  · refine ⟨L, ?_⟩
    rw [List.concat_eq_append] at h
    rw [h, getLastD_snoc]
theorem wst_len (x y w : Int) (rs : List (Sh × Int)) : (wst x y w rs).1.length = rs.length + 1 := by
  rcases List.eq_nil_or_concat rs with rfl | ⟨r', r, rfl⟩
  · rfl
  · rw [List.concat_eq_append, wst_snoc, List.length_append, List.length_append, wst_len x y w r']
    rfl
termination_by rs.length
decreasing_by
  simp_all
theorem cut_last (xs : List V) (x : V) : cutV (xs ++ [x]) none (some (-1)) = xs := by
  have e1 : HT.sIx (xs ++ [x]).length 0 none = 0 := rfl
  have e2 : HT.sIx (xs ++ [x]).length (xs ++ [x]).length (some (-1)) = xs.length := by
    show (if (-1 : Int) < 0 then ((-1 : Int) + ((xs ++ [x]).length : Int)).toNat else min (-1 : Int).toNat (xs ++ [x]).length) = xs.length
    rw [if_pos (by decide), List.length_append]
    show ((-1 : Int) + ((xs.length + 1 : Nat) : Int)).toNat = xs.length
    omega
  unfold cutV
  rw [e1, e2, List.drop_zero, Nat.sub_zero, List.take_left]
theorem take_one {α : Type} {l : List α} {i : Nat} {a : α} (h : l[i]? = some a) : l.take (i + 1) = l.take i ++ [a] := by
  rw [List.take_add_one, h]
  rfl
theorem wst_take {x y w : Int} {rs : List (Sh × Int)} {i : Nat} {r : Sh × Int} (h : rs[i]? = some r) : wst x y w (rs.take (i + 1)) = ((wst x y w (rs.take i)).1 ++ [on ((wst x y w (rs.take i)).1.getLastD (0, 0)) (tn (wst x y w (rs.take i)).2 r.1)], tn (wst x y w (rs.take i)).2 r.1) := by
  rw [take_one h, wst_snoc]
theorem rails_at {K : PySem.W.Frag} {H : Hp} {vs : List V} {rs : List (Sh × Int)} {i : Nat} {v : V} (h : DTs K H vs (rs.map rail)) (e : vs[i]? = some v) : ∃ r, rs[i]? = some r ∧ ∃ a, v = .ref a ∧ SqT K H a [.str r.1.str, .int r.2] := by
  obtain ⟨d, h1, h2⟩ := h.getV e
  rw [List.getElem?_map] at h1
  cases z : rs[i]? with
  | none => rw [z] at h1; cases h1
  | some r =>
    rw [z] at h1
    cases Option.some.inj h1
    obtain ⟨a, xs, rfl, hs, hx⟩ := h2.tupOf
    obtain ⟨v1, v2, rfl, d1, d2⟩ := hx.two
    cases d1.strOf
    cases d2.intOf
    exact ⟨r, rfl, a, rfl, hs⟩
def spAbout : Sp := fun vs H Q _ => ∃ w : Int, vs = [.int w] ∧ Q (.int ((w + 2) % 4)) H
def spOnward (K : PySem.W.Frag) : Sp := fun vs H Q _ => ∃ (v : V) (p : Int × Int) (w n : Int), vs = [v, .int w, .int n] ∧ DT K H v (sq p) ∧ 0 ≤ w ∧ w ≤ 3 ∧ ∀ v' H', Same H H' → DT K H' v' (sq (p.1 + dx w * n, p.2 + dy w * n)) → Q v' H'
theorem dx_ok (w n : Int) : CMul (dx w) n := by
  left
  unfold dx
  split
  · decide
  · split <;> decide
theorem dy_ok (w n : Int) : CMul (dy w) n := by
  left
  unfold dy
  split
  · decide
  · split <;> decide
theorem on_one (p : Int × Int) (w : Int) : (p.1 + dx w * 1, p.2 + dy w * 1) = on p w := by
  unfold on
  rw [Int.mul_one, Int.mul_one]
theorem step_at {K : PySem.W.Frag} {H : Hp} {xs : List V} (h : DTs K H xs [sq (0, 1), sq (1, 0), sq (0, -1), sq (-1, 0)]) {w : Int} (w0 : 0 ≤ w) (w3 : w ≤ 3) : ∃ a, atI xs w = some (.ref a) ∧ SqT K H a [.int (dx w), .int (dy w)] := by
  have key : ∀ (v : V) (p : Int × Int), DT K H v (sq p) → ∃ a, v = .ref a ∧ SqT K H a [.int p.1, .int p.2] := fun v p hd => by
    obtain ⟨a, ys, rfl, hs, hy⟩ := hd.tupOf
    obtain ⟨v1, v2, rfl, d1, d2⟩ := hy.two
    cases d1.intOf
    cases d2.intOf
    exact ⟨a, rfl, hs⟩
  rcases way4 w0 w3 with rfl | rfl | rfl | rfl
  · obtain ⟨v, h1, h2⟩ := h.at (i := 0) (d := sq (0, 1)) rfl
    obtain ⟨a, rfl, h3⟩ := key v _ h2
    exact ⟨a, h1, h3⟩
  · obtain ⟨v, h1, h2⟩ := h.at (i := 1) (d := sq (1, 0)) rfl
    obtain ⟨a, rfl, h3⟩ := key v _ h2
    exact ⟨a, h1, h3⟩
  · obtain ⟨v, h1, h2⟩ := h.at (i := 2) (d := sq (0, -1)) rfl
    obtain ⟨a, rfl, h3⟩ := key v _ h2
    exact ⟨a, h1, h3⟩
  · obtain ⟨v, h1, h2⟩ := h.at (i := 3) (d := sq (-1, 0)) rfl
    obtain ⟨a, rfl, h3⟩ := key v _ h2
    exact ⟨a, h1, h3⟩
theorem sq_at {K : PySem.W.Frag} {H : Hp} {v : V} {p : Int × Int} (hd : DT K H v (sq p)) : ∃ a, v = .ref a ∧ SqT K H a [.int p.1, .int p.2] := by
  obtain ⟨a, ys, rfl, hs, hy⟩ := hd.tupOf
  obtain ⟨v1, v2, rfl, d1, d2⟩ := hy.two
  cases d1.intOf
  cases d2.intOf
  exact ⟨a, rfl, hs⟩
theorem eng_at {K : PySem.W.Frag} {H : Hp} {v : V} {x y w look : Int} {rs : List (Sh × Int)} (hd : DT K H v (eng x y w look rs)) : ∃ a r xs, v = .ref a ∧ SqT K H a [.int x, .int y, .int w, .int look, .ref r] ∧ SqT K H r xs ∧ DTs K H xs (rs.map rail) := by
  obtain ⟨a, ys, rfl, hs, hy⟩ := hd.tupOf
  obtain ⟨v1, v2, v3, v4, v5, rfl, d1, d2, d3, d4, d5⟩ := hy.five
  cases d1.intOf
  cases d2.intOf
  cases d3.intOf
  cases d4.intOf
  obtain ⟨r, xs, rfl, h1, h2⟩ := d5.tupOf
  exact ⟨a, r, xs, rfl, hs, h1, h2⟩
/-- a def of the text with keyword-only defaults, nothing leaves it -/
theorem FunD_ok0 {P : Program} {w : World} {K : PySem.W.Frag} {mg : Str → Option Value} {base : Heap} {x qual : Str} {params : Arguments} {body : List Stmt} {scope : Scope} {dvs : List V} {kws : List (Str × V)} {f : Addr} {fd : FuncData} {N ps : List Str} {k : Nat} {sp : Sp} (F : FunD K x qual params body scope dvs kws f fd) (S : FnScope N ps scope) (len : ∀ vs H Q E, sp vs H Q E → vs.length = ps.length)
    (hbody : ∀ (cdv : Value) (A : Around) (outer : List Env) (s : Shared) (H : Hp) (vs : List V) (Q : VK) (E : XK), Room k (A.deeper (envOfC qual scope s.heap.objs.size f cdv)) → sp vs H Q E →
      ∃ t, PSs (cxOf CX0 P w K mg base N qual scope f cdv A outer s H E).nox body t ∧ t { nx := fun _ H' => Q .non H', rt := Q } (start N vs) H) : FnOk P w K mg base CX0 (k + 1) f fd ps sp := by
  refine F.ok S len fun cdv A outer s H vs Q E hr hsp => ?_
  obtain ⟨t, h, q⟩ := hbody cdv A outer s H vs Q E hr hsp
  exact ⟨t, h.nox, q⟩
def spSAN (K : PySem.W.Frag) : Sp := fun vs H Q _ => ∃ (v : V) (x y w look : Int) (rs : List (Sh × Int)), vs = [v] ∧ DT K H v (eng x y w look rs) ∧ rs.length ≤ 900 ∧
  ∀ p xs H', Same H H' → H p = none → H' p = some (.lst xs) → DTs K H' xs ((wst x y w rs).1.map sq) → Q (.ref p) H'
def spSquares (K : PySem.W.Frag) : Sp := fun vs H Q _ => ∃ (v : V) (x y w look : Int) (rs : List (Sh × Int)), vs = [v] ∧ DT K H v (eng x y w look rs) ∧ rs.length ≤ 900 ∧
  ∀ v' H', Same H H' → DT K H' v' (.tuple ((wst x y w rs).1.dropLast.map sq)) → Q v' H'
def wantedOf (x y w look : Int) (rs : List (Sh × Int)) : Int × Int := if look = 1 then (wst x y w rs).1.getLastD (0, 0) else on (x, y) ((w + 2) % 4)
def spWanted (K : PySem.W.Frag) : Sp := fun vs H Q _ => ∃ (v : V) (x y w look : Int) (rs : List (Sh × Int)), vs = [v] ∧ DT K H v (eng x y w look rs) ∧ (rs ≠ [] ∧ rs.length ≤ 900 ∧ (look = 1 ∨ look = -1)) ∧
  ∀ v' H', Same H H' → DT K H' v' (sq (wantedOf x y w look rs)) → Q v' H'
/-! ### a comprehension over two tuples -/
theorem lc_zipT {K : PySem.W.Frag} {a b : Addr} {xs ys : List V} {g : TG} {tt : TT} {te : TE} {vs : List Nat} {σ : L2.St} {H1 : Hp} {D : Addr} {Qd : Hp → Prop} (hl : xs.length = ys.length) (Pv : Nat → Hp → Prop) (h0 : Pv 0 (upd H1 D (.lst []))) (hq : ∀ i H, Pv i H → SqT K H a xs ∧ SqT K H b ys)
    (hs : ∀ (i : Nat) (x y : V) (T : Addr) (H : Hp), xs[i]? = some x → ys[i]? = some y → Pv i H → H T = none → g (.ref T) (wipe σ vs) (upd H T (.tup [x, y])) fun σ2 H2 => wipe σ2 vs = wipe σ vs ∧ tt σ2 H2 fun b H3 =>
      if b = true then te σ2 H3 fun y H4 => ∃ acc, H4 D = some (.lst acc) ∧ acc.length < sizeLine ∧ Pv (i + 1) (upd H4 D (.lst (acc ++ [y]))) else Pv (i + 1) H3) (hd : ∀ H, Pv xs.length H → Qd H) :
    ∃ W : Nat → Nat → Hp → Prop, (∃ m, W 0 m (upd H1 D (.lst []))) ∧ ∀ i m H, W i m H →
      ((RZ.ItzT K a b).stop i H ∧ Qd H) ∨ ((RZ.ItzT K a b).go i H ∧ ∃ Nx : Hp → Prop, (∀ H', Nx H' → ∃ m', m' < m ∧ W (i + 1) m' H') ∧ ∀ x H', (RZ.ItzT K a b).yld i H x H' → g x (wipe σ vs) H' fun σ2 H2 => wipe σ2 vs = wipe σ vs ∧ tt σ2 H2 fun b H3 =>
        if b = true then te σ2 H3 fun y H4 => ∃ acc, H4 D = some (.lst acc) ∧ acc.length < sizeLine ∧ Nx (upd H4 D (.lst (acc ++ [y]))) else Nx H3) := by
  refine ⟨fun i m H => m = xs.length - i ∧ i ≤ xs.length ∧ Pv i H, ⟨xs.length, rfl, Nat.zero_le _, h0⟩, ?_⟩
  rintro i m H ⟨rfl, hi, p⟩
  obtain ⟨q1, q2⟩ := hq i H p
  by_cases hlt : i < xs.length
  · have hlt2 : i < ys.length := hl ▸ hlt
    refine .inr ⟨⟨xs, ys, xs[i], ys[i], q1, q2, by simp [hlt], by simp [hlt2]⟩, Pv (i + 1), fun H' p' => ⟨xs.length - (i + 1), by omega, rfl, hlt, p'⟩, fun x H' y => ?_⟩
    obtain ⟨T, x1, y1, rfl, nT, rfl, f1, f2⟩ := y
    exact hs i x1 y1 T H (f1 _ q1) (f2 _ q2) p nT
  · have e : i = xs.length := by omega
    subst e
    exact .inl ⟨⟨xs, ys, q1, q2, .inl (Nat.le_refl _)⟩, hd H p⟩
/-! ### what a datum's type is -/
def tyN : PyData → String
  | .none => "NoneType"
  | .bool _ => "bool"
  | .int _ => "int"
  | .str _ => "str"
  | .list _ => "list"
  | .tuple _ => "tuple"
  | .dict _ => "dict"
theorem DT.ty {K : PySem.W.Frag} {H : Hp} {v : V} {d : PyData} (h : DT K H v d) : TyX K H v (.type (tyN d)) := by
  cases h with
  | non => exact .base .non
  | bl b => exact .base (.bl b)
  | int i => exact .base (.int i)
  | str x => exact .base (.str x)
  | tup hs ha =>
    rcases hs with (hs | ⟨o, hs⟩) | ⟨o, its, n, hk, hc, _⟩
    · exact .base (.tup hs)
    · exact .fTuple hs
    · exact .kTuple hk hc
def isT : PyData → Bool
  | .tuple _ => true
  | _ => false
def isB : PyData → Bool
  | .bool _ => true
  | _ => false
def isS : PyData → Bool
  | .str _ => true
  | _ => false
theorem kT {K : PySem.W.Frag} {H : Hp} {v : V} {d : PyData} (h : DT K H v d) : PySem.W.kitOne K (.type (tyN d)) (.type "tuple") = some (isT d) := by
  cases h with
  | non => exact kit_ty (a := "NoneType") (r := false) (by decide +kernel)
  | bl _ => exact kit_ty (a := "bool") (r := false) (by decide +kernel)
  | int _ => exact kit_ty (a := "int") (r := false) (by decide +kernel)
  | str _ => exact kit_ty (a := "str") (r := false) (by decide +kernel)
  | tup _ _ => exact kit_ty (a := "tuple") (r := true) (by decide +kernel)
theorem kL {K : PySem.W.Frag} {H : Hp} {v : V} {d : PyData} (h : DT K H v d) : PySem.W.kitOne K (.type (tyN d)) (.type "list") = some false := by
  cases h with
  | non => exact kit_ty (a := "NoneType") (r := false) (by decide +kernel)
  | bl _ => exact kit_ty (a := "bool") (r := false) (by decide +kernel)
  | int _ => exact kit_ty (a := "int") (r := false) (by decide +kernel)
  | str _ => exact kit_ty (a := "str") (r := false) (by decide +kernel)
  | tup _ _ => exact kit_ty (a := "tuple") (r := false) (by decide +kernel)
theorem kD {K : PySem.W.Frag} {H : Hp} {v : V} {d : PyData} (h : DT K H v d) : PySem.W.kitOne K (.type (tyN d)) (.type "dict") = some false := by
  cases h with
  | non => exact kit_ty (a := "NoneType") (r := false) (by decide +kernel)
  | bl _ => exact kit_ty (a := "bool") (r := false) (by decide +kernel)
  | int _ => exact kit_ty (a := "int") (r := false) (by decide +kernel)
  | str _ => exact kit_ty (a := "str") (r := false) (by decide +kernel)
  | tup _ _ => exact kit_ty (a := "tuple") (r := false) (by decide +kernel)
theorem kB {K : PySem.W.Frag} {H : Hp} {v : V} {d : PyData} (h : DT K H v d) : PySem.W.kitOne K (.type (tyN d)) (.type "bool") = some (isB d) := by
  cases h with
  | non => exact kit_ty (a := "NoneType") (r := false) (by decide +kernel)
  | bl _ => exact kit_ty (a := "bool") (r := true) (by decide +kernel)
  | int _ => exact kit_ty (a := "int") (r := false) (by decide +kernel)
  | str _ => exact kit_ty (a := "str") (r := false) (by decide +kernel)
  | tup _ _ => exact kit_ty (a := "tuple") (r := false) (by decide +kernel)
theorem kS {K : PySem.W.Frag} {H : Hp} {v : V} {d : PyData} (h : DT K H v d) : PySem.W.kitOne K (.type (tyN d)) (.type "str") = some (isS d) := by
  cases h with
  | non => exact kit_ty (a := "NoneType") (r := false) (by decide +kernel)
  | bl _ => exact kit_ty (a := "bool") (r := false) (by decide +kernel)
  | int _ => exact kit_ty (a := "int") (r := false) (by decide +kernel)
  | str _ => exact kit_ty (a := "str") (r := true) (by decide +kernel)
  | tup _ _ => exact kit_ty (a := "tuple") (r := false) (by decide +kernel)
theorem kTL {K : PySem.W.Frag} {H : Hp} {v : V} {d : PyData} (h : DT K H v d) : PySem.W.kitAny K (.type (tyN d)) [.type "tuple", .type "list"] = some (isT d) :=
  kitAny_cons (kT h) (fun e => by rw [e]; exact kitAny_cons (kL h) (fun _ => kitAny_nil) (fun z => by cases z)) (fun e => e)
theorem kTLD {K : PySem.W.Frag} {H : Hp} {v : V} {d : PyData} (h : DT K H v d) : PySem.W.kitAny K (.type (tyN d)) [.type "tuple", .type "list", .type "dict"] = some (isT d) :=
  kitAny_cons (kT h) (fun e => by rw [e]; exact kitAny_cons (kL h) (fun _ => kitAny_cons (kD h) (fun _ => kitAny_nil) (fun z => by cases z)) (fun z => by cases z)) (fun e => e)
theorem iteEq {α : Type} [DecidableEq α] {x y : α} {A B : Prop} (h : x = y) (k : A) : if decide (x = y) = true then A else B := by
  rw [decide_eq_true h]
  exact iteT k
mutual
def okD : PyData → Bool
  | .none => true
  | .bool _ => true
  | .int _ => true
  | .str x => PyData.strOk x
  | .tuple ds => decide (ds.length ≤ 1000) && okAll ds
  | .list _ => false
  | .dict _ => false
def okAll : List PyData → Bool
  | [] => true
  | d :: ds => okD d && okAll ds
end
mutual
theorem lay_ok : ∀ d : PyData, okD d = true → d.canLay0 = true
  | .none, _ => rfl
  | .bool _, _ => rfl
  | .int _, _ => rfl
  | .str x, h => by
    rw [okD] at h
    rw [PyData.canLay0]
    exact h
  | .tuple ds, h => by
    rw [okD, Bool.and_eq_true] at h
    rw [PyData.canLay0]
    exact lay_oks ds h.2
  | .list _, h => by rw [okD] at h; cases h
  | .dict _, h => by rw [okD] at h; cases h
theorem lay_oks : ∀ ds : List PyData, okAll ds = true → PyData.canLayAll0 ds = true
  | [], _ => rfl
  | d :: ds, h => by
    rw [okAll, Bool.and_eq_true] at h
    rw [PyData.canLayAll0, lay_ok d h.1, lay_oks ds h.2]
    rfl
end
theorem okAll_get : ∀ {ds : List PyData} {i : Nat} {d : PyData}, okAll ds = true → ds[i]? = some d → okD d = true
  | [], _, _, _, e => by simp at e
  | x :: ds, 0, d, h, e => by
    rw [okAll, Bool.and_eq_true] at h
    simp at e
    rw [← e]
    exact h.1
  | x :: ds, i + 1, d, h, e => by
    rw [okAll, Bool.and_eq_true] at h
    exact okAll_get (i := i) h.2 (by simpa using e)
theorem dep_get : ∀ {ds : List PyData} {i : Nat} {d : PyData}, ds[i]? = some d → d.depth ≤ PyData.depthAll ds
  | [], _, _, e => by simp at e
  | x :: ds, 0, d, e => by
    simp at e
    rw [PyData.depthAll, ← e]
    exact Nat.le_max_left _ _
  | x :: ds, i + 1, d, e => by
    have h := dep_get (ds := ds) (i := i) (d := d) (by simpa using e)
    rw [PyData.depthAll]
    exact Nat.le_trans h (Nat.le_max_right _ _)
def spAlike (K : PySem.W.Frag) (n : Nat) : Sp := fun vs H Q _ => ∃ (v u : V) (d : PyData), vs = [v, u] ∧ DT K H v d ∧ DT K H u d ∧ okD d = true ∧ d.depth ≤ n ∧ (∀ H', Same H H' → Q (.bl true) H')
theorem tk_setD {H : Hp} {b : Addr} {kvs : List (Key × V)} {o : HO} (hb : H b = some (.dK kvs)) : Tk H (upd H b o) := fun a ys h => by
  have n : a ≠ b := fun z => by
    subst z
    rcases h with h | ⟨u, h⟩
    · rw [hb] at h
      cases h
    · rw [hb] at h
      cases h
  rcases h with h | ⟨u, h⟩
  · exact .inl (by rw [upd_ne n]; exact h)
  · exact .inr ⟨u, by rw [upd_ne n]; exact h⟩
def spDue (K : PySem.W.Frag) : Sp := fun vs H Q _ => ∃ (v : V) (x y w look : Int) (rs : List (Sh × Int)), vs = [v] ∧ DT K H v (eng x y w look rs) ∧ 0 ≤ w ∧ w ≤ 3 ∧ rs.length ≤ 900 ∧
  ∀ v' H', Same H H' → DT K H' v' (.tuple [.tuple ((wst x y w rs).1.dropLast.map sq), sq (wantedOf x y w look rs)]) → Q v' H'
theorem okAll_map {α : Type} (f : α → PyData) (h : ∀ a, okD (f a) = true) : ∀ l : List α, okAll (l.map f) = true
  | [] => rfl
  | a :: l => by
    rw [List.map_cons, okAll, h a, okAll_map f h l]
    rfl
theorem ok_sq (p : Int × Int) : okD (sq p) = true := by
  simp [sq, okD, okAll]
theorem ok_sqs (l : List (Int × Int)) (h : l.length ≤ 1000) : okD (.tuple (l.map sq)) = true := by
  rw [okD, okAll_map sq ok_sq, List.length_map, decide_eq_true h]
  rfl
theorem depT_sqs (l : List (Int × Int)) : (PyData.tuple (l.map sq)).depth ≤ 4 := by
  have h := dep_sqs l
  rw [PyData.depth]
  omega
theorem dep_sq (p : Int × Int) : (sq p).depth = 1 := by
  simp [sq, PyData.depth, PyData.depthAll]
theorem lawRange {n : Nat} (k : Int) (h2 : 2 ≤ k) (h9 : k ≤ 60) : 0 ≤ (if (if ((n : Int)) < k then ((n : Int)) else k) > 2 then (if ((n : Int)) < k then ((n : Int)) else k) else 2) ∧ (if (if ((n : Int)) < k then ((n : Int)) else k) > 2 then (if ((n : Int)) < k then ((n : Int)) else k) else 2) ≤ 60 := by
  split <;> split <;> omega
def spLaw (K : PySem.W.Frag) : Sp := fun vs H Q _ => ∃ (a : Addr) (ns : List Int), vs = [.ref a] ∧ SqL K H a (ns.map V.int) ∧ ns.length ≤ 63 ∧ ∀ H', Q (.bl true) H'
theorem SqL_but {K : PySem.W.Frag} {H H1 H2 : Hp} {a b : Addr} {xs : List V} (h : SqL K H a xs) (nb : H b = none) (e1 : Same H H1) (e2 : But b H1 H2) : SqL K H2 a xs := by
  rcases h with (h | ⟨o, h⟩) | h
  · exact .inl (.inl (e2 _ _ (ne_of_none h nb) (e1 _ _ h)))
  · exact .inl (.inr ⟨o, e2 _ _ (ne_of_none h nb) (e1 _ _ h)⟩)
  · exact .inr h
theorem Box.same {H H' : Hp} {b : Addr} (h : Box H b) (e : Same H H') : Box H' b := by
  obtain ⟨i, s, c, h⟩ := h
  exact ⟨i, s, c, e _ _ h⟩
theorem eng_cut (x y w look : Int) (rs : List (Sh × Int)) : cutD [.int x, .int y, .int w, .int look, .tuple (rs.map rail)] none (some 3) = [.int x, .int y, .int w] := rfl
/-! ### readings, step by step -/
section
variable {K : PySem.W.Frag} {σ : L2.St} {H : Hp} {Q : VK} {ta tb : TE} {r : R2} {v : V}
theorem r_c (k : Q v H) : tC v σ H Q := k
theorem r_v {i : Nat} (h : σ[i]? = some (some v)) (k : Q v H) : tVar i σ H Q := ⟨v, h, k⟩
theorem r_op (k : ta σ H fun x H1 => tb σ H1 fun y H2 => r x y H2 Q) : tOp r ta tb σ H Q := k
theorem r_tup {t : TA} (k : t σ H fun xs H1 => xs.length ≤ sizeLine ∧ ∀ p, H1 p = none → Q (.ref p) (upd H1 p (.tup xs))) : tTup t σ H Q := k
theorem r_lst {t : TA} (k : t σ H fun xs H1 => xs.length ≤ sizeLine ∧ ∀ p, H1 p = none → Q (.ref p) (upd H1 p (.lst xs))) : tLst t σ H Q := k
theorem r_cons {tr : TA} {Q : List V → Hp → Prop} (k : ta σ H fun x H1 => tr σ H1 fun xs H2 => Q (x :: xs) H2) : tCons ta tr σ H Q := k
theorem r_nil {Q : List V → Hp → Prop} (k : Q [] H) : tNil σ H Q := k
theorem r_call {sp : Sp} {dvs : List V} {E : XK} {t : TA} (k : t σ H fun vs H1 => sp (vs ++ dvs) H1 Q E) : tCall sp dvs E t σ H Q := k
theorem r_np {Q : Option Int → Hp → Prop} (k : Q none H) : tNoPart σ H Q := k
theorem r_nm {i : Nat} {Q : L2.St → Hp → Prop} (k : Q (σ.set i (some v)) H) : gName i v σ H Q := k
theorem r_asg {g : TG} {D : Ends} (k : ta σ H fun x H1 => g x σ H1 D.nx) : tAsg ta g D σ H := k
theorem r_seq {t u : TS} {D : Ends} (k : t { D with nx := u D } σ H) : tSeq t u D σ H := k
theorem r_next {D : Ends} (k : D.nx σ H) : tNext D σ H := k
theorem r_ret {D : Ends} (k : ta σ H D.rt) : tRet ta D σ H := k
theorem r_I0 {g : Int → Int → V} {i j : Int} (k : Q (g i j) H) : rI0 g (.int i) (.int j) H Q := ⟨i, j, rfl, rfl, k⟩
theorem r_I {C : Int → Int → Prop} {g : Int → Int → V} {i j : Int} (c : C i j) (k : Q (g i j) H) : rI C g (.int i) (.int j) H Q := ⟨i, j, rfl, rfl, c, k⟩
theorem r_ixTV {j : Nat} {ds : List PyData} {i : Int} {d : PyData} (hv : σ[j]? = some (some v)) (h : DT K H v (.tuple ds)) (e : atI ds i = some d) (q : ∀ v', DT K H v' d → Q v' H) : tOp (rIxT K) (tVar j) (tC (.int i)) σ H Q := ⟨v, hv, r_ixT h e q⟩
end
/-! ### what an expression comes to, whatever was laid meanwhile -/
def EvD (K : PySem.W.Frag) (te : TE) (σ : L2.St) (H : Hp) (d : PyData) : Prop := ∀ H1, Same H H1 → ∀ Q : VK, (∀ v H2, Same H1 H2 → DT K H2 v d → Q v H2) → te σ H1 Q
def EvI (te : TE) (σ : L2.St) (i : Int) : Prop := ∀ (H : Hp) (Q : VK), Q (.int i) H → te σ H Q
section
variable {K : PySem.W.Frag} {σ : L2.St} {H : Hp} {ta tb : TE} {a b : Int}
theorem evi_v {i : Nat} (h : σ[i]? = some (some (.int a))) : EvI (tVar i) σ a := fun H Q q => ⟨_, h, q⟩
theorem evi_c : EvI (tC (.int a)) σ a := fun H Q q => q
theorem evi_0 {g : Int → Int → Int} (h1 : EvI ta σ a) (h2 : EvI tb σ b) : EvI (tOp (rI0 fun i j => .int (g i j)) ta tb) σ (g a b) := fun H Q q => h1 H _ (h2 H _ ⟨a, b, rfl, rfl, q⟩)
theorem evd_i (h : EvI ta σ a) : EvD K ta σ H (.int a) := fun H1 _ Q q => h H1 Q (q _ _ (Same.refl _) (.int a))
theorem evd_2 (h1 : EvI ta σ a) (h2 : EvI tb σ b) : EvD K (tTup (tCons ta (tCons tb tNil))) σ H (.tuple [.int a, .int b]) := fun H1 _ Q q =>
  h1 H1 _ (h2 H1 _ ⟨by show 2 ≤ sizeLine; decide, fun p np => q _ _ (same_new np) (DT.new (.cons (.int a) (.cons (.int b) .nil)) np)⟩)
def pick4D (w : Int) (d0 d1 d2 d3 : PyData) : PyData := if w = 0 then d0 else if w = 1 then d1 else if w = 2 then d2 else d3
theorem r_disp4 {t0 t1 t2 t3 : TE} {d0 d1 d2 d3 : PyData} {j : Nat} {w : Int} {Q : VK} (e0 : EvD K t0 σ H d0) (e1 : EvD K t1 σ H d1) (e2 : EvD K t2 σ H d2) (e3 : EvD K t3 σ H d3) (hk : σ[j]? = some (some (.int w))) (w0 : 0 ≤ w) (w3 : w ≤ 3)
    (q : ∀ v H', Same H H' → DT K H' v (pick4D w d0 d1 d2 d3) → Q v H') : tDGet (tDisp [(tC (.int 0), t0), (tC (.int 1), t1), (tC (.int 2), t2), (tC (.int 3), t3)]) (tVar j) σ H Q := by
  intro p np
  have s0 : Same H (upd H p (.dK [])) := same_new np
  refine e0 _ s0 _ fun v0 H1 s1 x0 => ?_
  refine e1 _ (s0.trans s1) _ fun v1 H2 s2 x1 => ?_
  refine e2 _ ((s0.trans s1).trans s2) _ fun v2 H3 s3 x2 => ?_
  refine e3 _ (((s0.trans s1).trans s2).trans s3) _ fun v3 H4 s4 x3 => ?_
  have s14 := ((s1.trans s2).trans s3).trans s4
  have hp : H4 p = some (.dK []) := s14 _ _ upd_same
  refine ⟨hp, [(Sum.inl 0, v0), (Sum.inl 1, v1), (Sum.inl 2, v2), (Sum.inl 3, v3)], rfl, by show 4 ≤ 15; decide, ?_⟩
  have tk := tk_setD (o := HO.dK (mergeK [] [(Sum.inl 0, v0), (Sum.inl 1, v1), (Sum.inl 2, v2), (Sum.inl 3, v3)])) hp
  have sH : Same H (upd H4 p (HO.dK (mergeK [] [(Sum.inl 0, v0), (Sum.inl 1, v1), (Sum.inl 2, v2), (Sum.inl 3, v3)]))) := fun c o h => by
    rw [upd_ne (ne_of_none h np)]
    exact s14 _ _ (s0 _ _ h)
  rcases way4 w0 w3 with rfl | rfl | rfl | rfl
  · exact ⟨.int 0, hk, p, v0, rfl, .inl ⟨_, Sum.inl 0, .inl upd_same, rfl, rfl⟩, q _ _ sH (x0.up (((tk_same s2).trans ((tk_same s3).trans (tk_same s4))).trans tk))⟩
  · exact ⟨.int 1, hk, p, v1, rfl, .inl ⟨_, Sum.inl 1, .inl upd_same, rfl, rfl⟩, q _ _ sH (x1.up (((tk_same s3).trans (tk_same s4)).trans tk))⟩
  · exact ⟨.int 2, hk, p, v2, rfl, .inl ⟨_, Sum.inl 2, .inl upd_same, rfl, rfl⟩, q _ _ sH (x2.up ((tk_same s4).trans tk))⟩
  · exact ⟨.int 3, hk, p, v3, rfl, .inl ⟨_, Sum.inl 3, .inl upd_same, rfl, rfl⟩, q _ _ sH (x3.up tk)⟩
end
/-! ### calls by names alone -/
section
variable {X : Cx} {k : Nat} {f : Addr} {fd : FuncData} {ps ks : List Str} {sp : Sp} {E : XK} {x : Str} {p pos : Pos} {kws : List Keyword} {tk : TA} {g : List Value → List Value → List Value} {gV : List V → List V → List V}
theorem pe_kw0 (F : FnOk X.prog X.w X.K X.mg X.base CX0 k f fd ps sp) (room : Room k X.A) (gl : Gl X x) (at_ : X.mg x = some (.ref f)) (kp : PySem.W.keepIn X.K (.ref f) = true) (kb : KBn X.K fd ps 0 ks g gV) (out : Passes CX0 X E) (kw : PK X kws tk)
    (all_ : (backToKw pos (keywordEach kws X.env)).all (·.1.isSome) = true := by rfl) (names : (backToKw pos (keywordEach kws X.env)).filterMap (·.1) = ks := by rfl) (nodb : (x == ("__debug__" : Str)) = false := by decide)
    (plain : ((backTo pos (starEach [] X.env)).any (·.1) || (backToKw pos (keywordEach kws X.env)).any (·.1.isNone)) = false := by rfl) : PE X (.Call (.Name x p) [] kws pos) (tCallN 0 ks.length sp gV E tNil tk) :=
  ⟨fun pins s σ H Q I h => wpAny_Call_Name_kw (ld_glob I gl at_ (PySem.W.callWith_KW0 (h₀ := X.base) I.ok.mod.kin kp all_ (thn (kw.run pos pins s σ H _ I h) fun ws s2 ⟨zs, H2, I2, rz, l1, l2, q2⟩ => ⟨I2.kIn, by
    rw [names]
    exact run_fnN (us := []) (vs := []) F room kb out I2 .nil rz rfl l2 q2⟩) plain) nodb)⟩
end
def swap2 {α : Type} : List α → List α
  | [a, b] => [b, a]
  | l => l
theorem vals_swap2 {zs : List V} {ws : List Value} (r : Vals zs ws) : Vals (swap2 zs) (swap2 ws) := by
  cases r with
  | nil => exact .nil
  | cons a t => cases t with
    | nil => exact .cons a .nil
    | cons b t => cases t with
      | nil => exact .cons b (.cons a .nil)
      | cons c t => exact .cons a (.cons b (.cons c t))
theorem script_keep {K : PySem.W.Frag} {H0 : Hp} {a b : Addr} {xs : List V} (h : SqL K H0 a xs) (nb : H0 b = none) : ∀ H1 H2 : Hp, But b H1 H2 → SqL K H1 a xs → SqL K H2 a xs := fun H1 H2 e h1 => by
  rcases h with (h | ⟨o, h⟩) | h
  · rcases h1 with (h1 | ⟨o1, h1⟩) | h1
    · exact .inl (.inl (e _ _ (ne_of_none h nb) h1))
    · exact .inl (.inr ⟨o1, e _ _ (ne_of_none h nb) h1⟩)
    · exact .inr h1
  · rcases h1 with (h1 | ⟨o1, h1⟩) | h1
    · exact .inl (.inl (e _ _ (ne_of_none h nb) h1))
    · exact .inl (.inr ⟨o1, e _ _ (ne_of_none h nb) h1⟩)
    · exact .inr h1
  · exact .inr h
/-- a loop over a written text's signs -/
theorem for_str {x : Str} {g : TG} {tb : TS} {D : Ends} {σ : L2.St} {H : Hp} (Pv : Nat → L2.St → Hp → Prop) (h0 : Pv 0 σ H)
    (hs : ∀ i c σ H, x.cps[i]? = some c → Pv i σ H → g (.str ⟨#[c]⟩) σ H fun σ2 H2 => tb { D with nx := Pv (i + 1), ct := Pv (i + 1), bk := D.nx } σ2 H2) (hd : ∀ σ H, Pv x.cps.size σ H → D.nx σ H) :
    ∃ W : Nat → Nat → L2.St → Hp → Prop, (∃ m, W 0 m σ H) ∧ ∀ i m σ H, W i m σ H →
      ((Its x).stop i H ∧ D.nx σ H) ∨ ((Its x).go i H ∧ ∃ N : L2.St → Hp → Prop, (∀ σ' H', N σ' H' → ∃ m', m' < m ∧ W (i + 1) m' σ' H') ∧ ∀ v H', (Its x).yld i H v H' → g v σ H' fun σ2 H2 => tb { D with nx := N, ct := N, bk := D.nx } σ2 H2) := by
  refine ⟨fun i m σ H => m = x.cps.size - i ∧ i ≤ x.cps.size ∧ Pv i σ H, ⟨x.cps.size, by simp, Nat.zero_le _, h0⟩, ?_⟩
  rintro i m σ H ⟨rfl, hi, p⟩
  by_cases hlt : i < x.cps.size
  · refine .inr ⟨hlt, Pv (i + 1), fun σ' H' p' => ⟨x.cps.size - (i + 1), by omega, rfl, hlt, p'⟩, fun v H' y => ?_⟩
    obtain ⟨e1, c, hc, e2⟩ := y
    subst e1 e2
    exact hs i c σ H' hc p
  · have e : i = x.cps.size := by omega
    subst e
    exact .inl ⟨Nat.le_refl _, hd σ H p⟩
/-! ### gone on -/
def fwdE (x y w look : Int) (r : Sh × Int) (rest : List (Sh × Int)) : PyData := eng (on (x, y) (tn w r.1)).1 (on (x, y) (tn w r.1)).2 (tn w r.1) look (rest ++ [r])
def bwdE (x y w look : Int) (r : Sh × Int) (init : List (Sh × Int)) : PyData := eng (on (x, y) ((w + 2) % 4)).1 (on (x, y) ((w + 2) % 4)).2 (tb w r.1) look (r :: init)
def spFwd (K : PySem.W.Frag) : Sp := fun vs H Q _ => ∃ (v : V) (x y w look : Int) (r : Sh × Int) (rest : List (Sh × Int)), vs = [v] ∧ DT K H v (eng x y w look (r :: rest)) ∧ rest.length ≤ 900 ∧ ∀ v' H', Same H H' → DT K H' v' (fwdE x y w look r rest) → Q v' H'
def spBwd (K : PySem.W.Frag) : Sp := fun vs H Q _ => ∃ (v : V) (x y w look : Int) (r : Sh × Int) (init : List (Sh × Int)), vs = [v] ∧ DT K H v (eng x y w look (init ++ [r])) ∧ init.length ≤ 900 ∧ ∀ v' H', Same H H' → DT K H' v' (bwdE x y w look r init) → Q v' H'
def spGone (K : PySem.W.Frag) : Sp := fun vs H Q _ => ∃ (v : V) (x y w look : Int) (rs : List (Sh × Int)), vs = [v] ∧ DT K H v (eng x y w look rs) ∧ rs ≠ [] ∧ rs.length ≤ 900 ∧
  ∀ v' H', Same H H' → (∀ r rest, rs = r :: rest → look = 1 → DT K H' v' (fwdE x y w look r rest)) → (∀ init r, rs = init ++ [r] → look ≠ 1 → DT K H' v' (bwdE x y w look r init)) → Q v' H'
def spHand (K : PySem.W.Frag) : Sp := fun vs H Q _ => ∃ (v : V) (x y w look : Int) (rs : List (Sh × Int)), vs = [v] ∧ DT K H v (eng x y w look rs) ∧ ∀ v' H', Same H H' → DT K H' v' (eng x y w (-look) rs) → Q v' H'
def spBack : Sp := fun vs H Q _ => ∃ (w : Int) (s : Sh), vs = [.int w, .str s.str] ∧ ∀ H', Same H H' → Q (.int (tb w s)) H'
theorem cut_1n (d : PyData) (ds : List PyData) : cutD (d :: ds) (some 1) none = ds := by
  have e1 : HT.sIx (d :: ds).length 0 (some 1) = 1 := by
    rw [show (some (1 : Int)) = some ((1 : Nat) : Int) from rfl, HT.sIx_nat, List.length_cons]
    omega
  unfold cutD
  rw [e1, HT.sIx_none, List.length_cons]
  show List.take (ds.length + 1 - 1) ds = ds
  rw [Nat.add_sub_cancel, List.take_length]
theorem cut_n1 (d : PyData) (ds : List PyData) : cutD (d :: ds) none (some 1) = [d] := by
  have e1 : HT.sIx (d :: ds).length (d :: ds).length (some 1) = 1 := by
    rw [show (some (1 : Int)) = some ((1 : Nat) : Int) from rfl, HT.sIx_nat, List.length_cons]
    omega
  unfold cutD
  rw [e1, HT.sIx_none]
  rfl
theorem six_m1 (n k : Nat) : HT.sIx (n + 1) k (some (-1)) = n := by
  show (if (-1 : Int) < 0 then ((-1 : Int) + ((n + 1 : Nat) : Int)).toNat else min (-1 : Int).toNat (n + 1)) = n
  rw [if_pos (by decide)]
  omega
theorem cut_l1 (d : PyData) (ds : List PyData) : cutD (ds ++ [d]) (some (-1)) none = [d] := by
  unfold cutD
  have e : (ds ++ [d]).length = ds.length + 1 := by
    rw [List.length_append]
    rfl
  rw [e, six_m1, HT.sIx_none, List.drop_left, Nat.add_sub_cancel_left]
  rfl
theorem cut_i1 (d : PyData) (ds : List PyData) : cutD (ds ++ [d]) none (some (-1)) = ds := by
  unfold cutD
  have e : (ds ++ [d]).length = ds.length + 1 := by
    rw [List.length_append]
    rfl
  rw [e, six_m1, HT.sIx_none, List.drop_zero, Nat.sub_zero, List.take_left]
theorem rail_at {K : PySem.W.Frag} {H : Hp} {v : V} {r : Sh × Int} (h : DT K H v (rail r)) : ∃ a, v = .ref a ∧ SqT K H a [.str r.1.str, .int r.2] := by
  obtain ⟨a, xs, rfl, hs, hx⟩ := h.tupOf
  obtain ⟨v1, v2, rfl, d1, d2⟩ := hx.two
  cases d1.strOf
  cases d2.intOf
  exact ⟨a, rfl, hs⟩
theorem iteNe {d e : PyData} {A B : Prop} (h : PyData.eqv d e = true) (k : B) : if (!PyData.eqv d e) = true then A else B := by
  rw [h]
  exact iteF k
theorem small12 {n : Nat} (h : n ≤ 12) : n < sizeLine := Nat.lt_of_le_of_lt h (by decide)
end OR

/-! a def's body over data: slots hold data or addresses, a ledger tells what stands at each address that may change -/
namespace OR
open PySem PySem.Spec PyProof.Rows L2

theorem smallL {n : Nat} (h : n ≤ 1000000) : n < sizeLine := Nat.lt_of_le_of_lt h (by decide)
inductive Vd where
  | dat (d : PyData)
  | raw (v : V)
abbrev Vd.int (i : Int) : Vd := .dat (.int i)
abbrev Vd.str (x : Str) : Vd := .dat (.str x)
abbrev Vd.bl (b : Bool) : Vd := .dat (.bool b)
abbrev Vd.ref (a : Addr) : Vd := .raw (.ref a)
def RV (K : PySem.W.Frag) (H : Hp) (v : V) : Vd → Prop
  | .dat d => DT K H v d
  | .raw u => v = u
abbrev RVs (K : PySem.W.Frag) (H : Hp) : List V → List Vd → Prop := Paired (RV K H)
abbrev RVp {α : Type} (K : PySem.W.Frag) (H : Hp) : List (α × V) → List (α × Vd) → Prop := Paired fun p q => p.1 = q.1 ∧ RV K H p.2 q.2
theorem RV.up {K : PySem.W.Frag} {H H' : Hp} {v : V} {d : Vd} (h : RV K H v d) (e : Tk H H') : RV K H' v d := by
  cases d with
  | dat d => exact DT.up (d := d) h e
  | raw u => exact h
theorem RVs.up {K : PySem.W.Frag} {H H' : Hp} {v : List V} {d : List Vd} (h : RVs K H v d) (e : Tk H H') : RVs K H' v d := Paired.mapP h fun _ _ q => q.up e
theorem RVp.up {α : Type} {K : PySem.W.Frag} {H H' : Hp} {v : List (α × V)} {d : List (α × Vd)} (h : RVp K H v d) (e : Tk H H') : RVp K H' v d := Paired.mapP h fun _ _ q => ⟨q.1, q.2.up e⟩
theorem RVs.length {K : PySem.W.Frag} {H : Hp} {vs : List V} {ds : List Vd} (h : RVs K H vs ds) : vs.length = ds.length := Paired.length h
theorem RVs.get {K : PySem.W.Frag} {H : Hp} : ∀ {vs : List V} {ds : List Vd} {i : Nat} {d : Vd}, RVs K H vs ds → ds[i]? = some d → ∃ v, vs[i]? = some v ∧ RV K H v d
  | _, _, _, _, .nil, e => by simp at e
  | _, _, 0, _, .cons r _, e => by simp at e; subst e; exact ⟨_, rfl, r⟩
  | _, _, i + 1, x, .cons _ t, e => by
    obtain ⟨u, h1, h2⟩ := RVs.get (i := i) (d := x) t (by simpa using e)
    exact ⟨u, by simpa using h1, h2⟩
theorem RVs.getV {K : PySem.W.Frag} {H : Hp} : ∀ {vs : List V} {ds : List Vd} {i : Nat} {v : V}, RVs K H vs ds → vs[i]? = some v → ∃ d, ds[i]? = some d ∧ RV K H v d
  | _, _, _, _, .nil, e => by simp at e
  | _, _, 0, _, .cons r _, e => by simp at e; subst e; exact ⟨_, rfl, r⟩
  | _, _, i + 1, x, .cons _ t, e => by
    obtain ⟨u, h1, h2⟩ := RVs.getV (i := i) (v := x) t (by simpa using e)
    exact ⟨u, by simpa using h1, h2⟩
theorem RVs.append {K : PySem.W.Frag} {H : Hp} : ∀ {vs us : List V} {ds es : List Vd}, RVs K H vs ds → RVs K H us es → RVs K H (vs ++ us) (ds ++ es)
  | _, _, _, _, .nil, s => s
  | _, _, _, _, .cons r t, s => .cons r (RVs.append t s)
theorem RVs.take {K : PySem.W.Frag} {H : Hp} : ∀ {vs : List V} {ds : List Vd} (n : Nat), RVs K H vs ds → RVs K H (vs.take n) (ds.take n)
  | _, _, 0, _ => .nil
  | _, _, _ + 1, .nil => .nil
  | _, _, n + 1, .cons r t => .cons r (RVs.take n t)
theorem RVs.drop {K : PySem.W.Frag} {H : Hp} : ∀ {vs : List V} {ds : List Vd} (n : Nat), RVs K H vs ds → RVs K H (vs.drop n) (ds.drop n)
  | _, _, 0, h => h
  | _, _, _ + 1, .nil => .nil
  | _, _, n + 1, .cons _ t => RVs.drop n t
theorem RVs.set {K : PySem.W.Frag} {H : Hp} {v : V} {d : Vd} (r : RV K H v d) : ∀ {vs : List V} {ds : List Vd} (i : Nat), RVs K H vs ds → RVs K H (vs.set i v) (ds.set i d)
  | _, _, _, .nil => .nil
  | _, _, 0, .cons _ t => .cons r t
  | _, _, i + 1, .cons q t => .cons q (RVs.set r i t)
/-- data alone -/
def dats (ds : List PyData) : List Vd := ds.map Vd.dat
theorem RVs.dts {K : PySem.W.Frag} {H : Hp} : ∀ {vs : List V} {ds : List PyData}, RVs K H vs (dats ds) → DTs K H vs ds
  | [], [], _ => .nil
  | _, d :: ds, h => by
    cases h with
    | cons r t => exact .cons r (RVs.dts t)
  | _ :: _, [], h => by cases h
theorem DTs.rvs {K : PySem.W.Frag} {H : Hp} {vs : List V} {ds : List PyData} (h : DTs K H vs ds) : RVs K H vs (dats ds) := by
  induction vs generalizing ds with
  | nil => cases h; exact .nil
  | cons v vs ih =>
    cases h with
    | cons a b => exact .cons a (ih b)

/-! ### what stands at an address that may change -/
inductive Cell where
  | lst (xs : List Vd)
  | dT (kvs : List (List Key × Vd))
  | dK (kvs : List (Key × Vd))
  | ins (C dx : Addr) (fs : List (Str × Vd))
  | box
def HasC (K : PySem.W.Frag) (H : Hp) (a : Addr) : Cell → Prop
  | .lst xs => ∃ vs, H a = some (.lst vs) ∧ RVs K H vs xs
  | .dT kvs => ∃ ws, H a = some (.dT ws) ∧ RVp K H ws kvs
  | .dK kvs => ∃ ws, H a = some (.dK ws) ∧ RVp K H ws kvs
  | .ins C dx fs => ∃ ws, H a = some (.ins C dx ws) ∧ RVp K H ws fs
  | .box => Box H a
theorem HasC.up {K : PySem.W.Frag} {H H' : Hp} {a : Addr} {c : Cell} (h : HasC K H a c) (e : Tk H H') (k : ∀ o, H a = some o → H' a = some o) : HasC K H' a c := by
  cases c with
  | lst xs => obtain ⟨vs, h1, h2⟩ := h; exact ⟨vs, k _ h1, RVs.up h2 e⟩
  | dT xs => obtain ⟨vs, h1, h2⟩ := h; exact ⟨vs, k _ h1, RVp.up h2 e⟩
  | dK xs => obtain ⟨vs, h1, h2⟩ := h; exact ⟨vs, k _ h1, RVp.up h2 e⟩
  | ins C dx xs => obtain ⟨vs, h1, h2⟩ := h; exact ⟨vs, k _ h1, RVp.up h2 e⟩
  | box => obtain ⟨i, s, c, h⟩ := h; exact ⟨i, s, c, k _ h⟩
theorem HasC.some {K : PySem.W.Frag} {H : Hp} {a : Addr} {c : Cell} (h : HasC K H a c) : ∃ o, H a = some o ∧ Mut (some o) := by
  cases c with
  | lst xs => obtain ⟨vs, h1, h2⟩ := h; exact ⟨_, h1, trivial⟩
  | dT xs => obtain ⟨vs, h1, h2⟩ := h; exact ⟨_, h1, trivial⟩
  | dK xs => obtain ⟨vs, h1, h2⟩ := h; exact ⟨_, h1, trivial⟩
  | ins C dx xs => obtain ⟨vs, h1, h2⟩ := h; exact ⟨_, h1, trivial⟩
  | box => obtain ⟨i, s, c, h⟩ := h; exact ⟨_, h, trivial⟩
theorem mut_no_tup {H : Hp} {a : Addr} {o : HO} {xs : List V} (h : H a = some o) (m : Mut (some o)) (r : Rd H a (.tup xs)) : False := by
  rcases r with r | ⟨u, r⟩
  · rw [h] at r; cases r; exact m
  · rw [h] at r; cases r; exact m
/-- a store at an address that may change leaves all tuples -/
theorem tk_mut {H : Hp} {a : Addr} {o o' : HO} (h : H a = some o) (m : Mut (some o)) : Tk H (upd H a o') := fun b xs r => by
  have n : b ≠ a := fun z => by subst z; exact mut_no_tup h m r
  rcases r with r | ⟨u, r⟩
  · exact .inl (by rw [upd_ne n]; exact r)
  · exact .inr ⟨u, by rw [upd_ne n]; exact r⟩
abbrev Led := List (Addr × Cell)
def addrs (A : Led) : List Addr := A.map (·.1)
structure LedOk (K : PySem.W.Frag) (A : Led) (H : Hp) : Prop where
  has : ∀ p ∈ A, HasC K H p.1 p.2
  nd : (addrs A).Nodup
theorem tk_but_led {K : PySem.W.Frag} {A : Led} {H H' : Hp} (L : LedOk K A H) (e : ∀ a o, a ∉ addrs A → H a = some o → H' a = some o) : Tk H H' := fun b xs r => by
  have n : b ∉ addrs A := fun z => by
    obtain ⟨p, hp, rfl⟩ := List.mem_map.mp z
    obtain ⟨o, h1, h2⟩ := (L.has p hp).some
    exact mut_no_tup h1 h2 r
  rcases r with r | ⟨u, r⟩
  · exact .inl (e _ _ n r)
  · exact .inr ⟨u, e _ _ n r⟩
theorem LedOk.same {K : PySem.W.Frag} {A : Led} {H H' : Hp} (L : LedOk K A H) (e : Same H H') : LedOk K A H' := ⟨fun p hp => (L.has p hp).up (tk_same e) fun o h => e _ _ h, L.nd⟩
theorem LedOk.new {K : PySem.W.Frag} {A : Led} {H : Hp} {p : Addr} {o : HO} {c : Cell} (L : LedOk K A H) (n : H p = none) (h : HasC K (upd H p o) p c) : LedOk K ((p, c) :: A) (upd H p o) := by
  refine ⟨fun q hq => ?_, ?_⟩
  · rcases List.mem_cons.mp hq with rfl | hq
    · exact h
    · exact (L.has q hq).up (tk_new n) fun o h => by rw [upd_ne (ne_of_none h n)]; exact h
  · refine List.nodup_cons.mpr ⟨fun z => ?_, L.nd⟩
    obtain ⟨q, hq, e⟩ := List.mem_map.mp z
    obtain ⟨o, h1, _⟩ := (L.has q hq).some
    have e' : q.1 = p := e
    rw [e', n] at h1
    cases h1
theorem addrs_set {A : Led} {k : Nat} {p : Addr} {c c' : Cell} (h : A[k]? = some (p, c)) : addrs (A.set k (p, c')) = addrs A := by
  unfold addrs
  rw [List.map_set]
  refine List.ext_getElem? fun i => ?_
  rw [List.getElem?_set]
  split
  · rename_i e
    subst e
    have hl : k < A.length := (List.getElem?_eq_some_iff.mp h).1
    rw [if_pos (by rw [List.length_map]; exact hl), List.getElem?_map, h]
    rfl
  · rfl
theorem mem_set_cases {α : Type} {A : List α} {k : Nat} {x q : α} (h : q ∈ A.set k x) : q = x ∨ ∃ j, j ≠ k ∧ A[j]? = some q := by
  obtain ⟨j, hj⟩ := List.mem_iff_getElem?.mp h
  rw [List.getElem?_set] at hj
  split at hj
  · split at hj
    · exact .inl (Option.some.inj hj).symm
    · cases hj
  · rename_i n
    exact .inr ⟨j, fun z => n z.symm, hj⟩
theorem nodup_ix {α : Type} {l : List α} (nd : l.Nodup) {i j : Nat} {a : α} (h1 : l[i]? = some a) (h2 : l[j]? = some a) : i = j := by
  obtain ⟨l1, e1⟩ := List.getElem?_eq_some_iff.mp h1
  obtain ⟨l2, e2⟩ := List.getElem?_eq_some_iff.mp h2
  exact (List.getElem_inj nd).mp (e1.trans e2.symm)
theorem LedOk.set {K : PySem.W.Frag} {A : Led} {H : Hp} {k : Nat} {p : Addr} {o : HO} {c c' : Cell} (L : LedOk K A H) (hk : A[k]? = some (p, c)) (h : HasC K (upd H p o) p c') : LedOk K (A.set k (p, c')) (upd H p o) := by
  have hp := L.has _ (List.mem_of_getElem? hk)
  obtain ⟨u, h1, h2⟩ := hp.some
  refine ⟨fun q hq => ?_, ?_⟩
  · rcases mem_set_cases hq with rfl | ⟨j, nj, hj⟩
    · exact h
    · have ne : q.1 ≠ p := fun z => nj (nodup_ix L.nd (a := p) (by unfold addrs; rw [List.getElem?_map, hj, ← z]; rfl) (by unfold addrs; rw [List.getElem?_map, hk]; rfl))
      exact (L.has q (List.mem_of_getElem? hj)).up (tk_mut h1 h2) fun o h => by rw [upd_ne ne]; exact h
  · rw [addrs_set hk]
    exact L.nd

/-! ### a def's body: what stood ahead (H0), what may be changed of it (X) -/
structure Bd where
  K : PySem.W.Frag
  H0 : Hp
  X : List Addr
structure Wd (B : Bd) (A : Led) (H : Hp) : Prop where
  led : LedOk B.K A H
  fr : ∀ a o, a ∉ B.X → B.H0 a = some o → H a = some o
  new : ∀ p ∈ A, p.1 ∈ B.X ∨ B.H0 p.1 = none
  ex : ∀ a ∈ B.X, H a ≠ none
theorem Wd.same {B : Bd} {A : Led} {H H' : Hp} (W : Wd B A H) (e : Same H H') : Wd B A H' := ⟨W.led.same e, fun a o n h => e _ _ (W.fr a o n h), W.new, fun a h => by
  cases z : H a with
  | none => exact absurd z (W.ex a h)
  | some o => rw [e _ _ z]; exact fun q => nomatch q⟩
theorem Wd.notX {B : Bd} {A : Led} {H : Hp} {p : Addr} (W : Wd B A H) (n : H p = none) : p ∉ B.X := fun h => W.ex p h n
theorem Wd.free {B : Bd} {A : Led} {H : Hp} {p : Addr} (W : Wd B A H) (n : H p = none) : B.H0 p = none := by
  cases e : B.H0 p with
  | none => rfl
  | some o => rw [W.fr p o (W.notX n) e] at n; cases n
theorem Wd.laid {B : Bd} {A : Led} {H : Hp} {p : Addr} {o : HO} {c : Cell} (W : Wd B A H) (n : H p = none) (h : HasC B.K (upd H p o) p c) : Wd B ((p, c) :: A) (upd H p o) :=
  ⟨W.led.new n h, fun a u na q => (same_new n) _ _ (W.fr a u na q), fun q hq => by
    rcases List.mem_cons.mp hq with rfl | hq
    · exact .inr (W.free n)
    · exact W.new q hq, fun a h => by
    by_cases z : a = p
    · rw [z, upd_same]; exact fun q => nomatch q
    · rw [upd_ne z]; exact W.ex a h⟩
theorem Wd.set {B : Bd} {A : Led} {H : Hp} {k : Nat} {p : Addr} {o : HO} {c c' : Cell} (W : Wd B A H) (hk : A[k]? = some (p, c)) (h : HasC B.K (upd H p o) p c') : Wd B (A.set k (p, c')) (upd H p o) := by
  have hn := W.new _ (List.mem_of_getElem? hk)
  refine ⟨W.led.set hk h, fun a u na q => ?_, fun q hq => ?_, fun a h => ?_⟩
  rotate_right
  · by_cases z : a = p
    · rw [z, upd_same]; exact fun q => nomatch q
    · rw [upd_ne z]; exact W.ex a h
  · have ne : a ≠ p := fun z => by
      subst z
      rcases hn with z | z
      · exact na z
      · rw [z] at q; cases q
    rw [upd_ne ne]
    exact W.fr a u na q
  · rcases mem_set_cases hq with rfl | ⟨j, _, hj⟩
    · exact hn
    · exact W.new q (List.mem_of_getElem? hj)
theorem Wd.at {B : Bd} {A : Led} {H : Hp} {k : Nat} {p : Addr} {c : Cell} (W : Wd B A H) (hk : A[k]? = some (p, c)) : HasC B.K H p c := W.led.has _ (List.mem_of_getElem? hk)
theorem Wd.sub {B : Bd} {A A' : Led} {H : Hp} (W : Wd B A H) (s : A'.Sublist A) : Wd B A' H :=
  ⟨⟨fun p hp => W.led.has p (s.subset hp), List.Nodup.sublist (s.map _) W.led.nd⟩, W.fr, fun p hp => W.new p (s.subset hp), W.ex⟩

abbrev Rho := List (Option Vd)
structure REnv (K : PySem.W.Frag) (H : Hp) (σ : L2.St) (ρ : Rho) : Prop where
  len : σ.length = ρ.length
  get : ∀ (i : Nat) (d : Vd), ρ[i]? = some (some d) → ∃ v, σ[i]? = some (some v) ∧ RV K H v d
theorem REnv.up {K : PySem.W.Frag} {H H' : Hp} {σ : L2.St} {ρ : Rho} (e : REnv K H σ ρ) (t : Tk H H') : REnv K H' σ ρ := ⟨e.len, fun i d h => by
  obtain ⟨v, h1, h2⟩ := e.get i d h
  exact ⟨v, h1, h2.up t⟩⟩
theorem REnv.set {K : PySem.W.Frag} {H : Hp} {σ : L2.St} {ρ : Rho} {v : V} {d : Vd} (i : Nat) (e : REnv K H σ ρ) (r : RV K H v d) : REnv K H (σ.set i (some v)) (ρ.set i (some d)) := by
  refine ⟨by rw [List.length_set, List.length_set, e.len], fun j u h => ?_⟩
  rw [List.getElem?_set] at h ⊢
  split at h
  · rename_i z
    rw [if_pos z]
    split at h
    · rename_i l
      rw [if_pos (by rw [e.len]; exact l)]
      cases h
      exact ⟨v, rfl, r⟩
    · cases h
  · rename_i z
    rw [if_neg z]
    exact e.get j u h
def Ret (B : Bd) (H : Hp) (Q : Vd → Led → Prop) (Qv : VK) : Prop := ∀ z d A' H', Wd B A' H' → Tk H H' → RV B.K H' z d → Q d A' → Qv z H'
theorem Ret.on {B : Bd} {H H' : Hp} {Q : Vd → Led → Prop} {Qv : VK} (r : Ret B H Q Qv) (t : Tk H H') : Ret B H' Q Qv := fun z d A' H1 w t1 rv q => r z d A' H1 w (t.trans t1) rv q
def WE (B : Bd) (te : TE) (ρ : Rho) (A : Led) (Q : Vd → Led → Prop) : Prop := ∀ σ H (Qv : VK), REnv B.K H σ ρ → Wd B A H → Ret B H Q Qv → te σ H Qv
def RetB (B : Bd) (H : Hp) (Q : Bool → Led → Prop) (Qv : Bool → Hp → Prop) : Prop := ∀ b A' H', Wd B A' H' → Tk H H' → Q b A' → Qv b H'
def WT (B : Bd) (te : TT) (ρ : Rho) (A : Led) (Q : Bool → Led → Prop) : Prop := ∀ σ H (Qv : Bool → Hp → Prop), REnv B.K H σ ρ → Wd B A H → RetB B H Q Qv → te σ H Qv
def RetA (B : Bd) (H : Hp) (Q : List Vd → Led → Prop) (Qv : List V → Hp → Prop) : Prop := ∀ vs ds A' H', Wd B A' H' → Tk H H' → RVs B.K H' vs ds → Q ds A' → Qv vs H'
def WA (B : Bd) (te : TA) (ρ : Rho) (A : Led) (Q : List Vd → Led → Prop) : Prop := ∀ σ H (Qv : List V → Hp → Prop), REnv B.K H σ ρ → Wd B A H → RetA B H Q Qv → te σ H Qv
/-- an operator, by values -/
def RW (B : Bd) (r : R2) (x y : Vd) (A : Led) (Q : Vd → Led → Prop) : Prop := ∀ v u H Qv, RV B.K H v x → RV B.K H u y → Wd B A H → Ret B H Q Qv → r v u H Qv
def RU (B : Bd) (r : V → Hp → VK → Prop) (x : Vd) (A : Led) (Q : Vd → Led → Prop) : Prop := ∀ v H Qv, RV B.K H v x → Wd B A H → Ret B H Q Qv → r v H Qv
def RL (B : Bd) (r : List V → Hp → VK → Prop) (xs : List Vd) (A : Led) (Q : Vd → Led → Prop) : Prop := ∀ vs H Qv, RVs B.K H vs xs → Wd B A H → Ret B H Q Qv → r vs H Qv
/-- a def's promise, used -/
def RS (B : Bd) (sp : Sp) (xs : List Vd) (A : Led) (Q : Vd → Led → Prop) : Prop := ∀ vs H Qv E, RVs B.K H vs xs → Wd B A H → Ret B H Q Qv → sp vs H Qv E
section
variable {B : Bd} {ρ : Rho} {A : Led} {Q : Vd → Led → Prop} {ta tb tc : TE} {r r' : R2}
theorem we_var {i : Nat} {d : Vd} (h : ρ[i]? = some (some d)) (k : Q d A) : WE B (tVar i) ρ A Q := fun σ H Qv e w c => by
  obtain ⟨v, h1, h2⟩ := e.get i d h
  exact ⟨v, h1, c v d A H w (Tk.refl H) h2 k⟩
theorem we_int {i : Int} (k : Q (.int i) A) : WE B (tC (.int i)) ρ A Q := fun σ H Qv e w c => c _ (.int i) A H w (Tk.refl H) (DT.int i) k
theorem we_bl {i : Bool} (k : Q (.bl i) A) : WE B (tC (.bl i)) ρ A Q := fun σ H Qv e w c => c _ (.bl i) A H w (Tk.refl H) (DT.bl i) k
theorem we_str {i : Str} (k : Q (.str i) A) : WE B (tC (.str i)) ρ A Q := fun σ H Qv e w c => c _ (.str i) A H w (Tk.refl H) (DT.str i) k
theorem we_non (k : Q (.dat .none) A) : WE B (tC .non) ρ A Q := fun σ H Qv e w c => c _ (.dat .none) A H w (Tk.refl H) DT.non k
theorem we_raw {v : V} (k : Q (.raw v) A) : WE B (tC v) ρ A Q := fun σ H Qv e w c => c _ (.raw v) A H w (Tk.refl H) rfl k
/-- a module's datum -/
theorem we_glob {v : V} {d : PyData} (h : ∀ H, DT B.K H v d) (k : Q (.dat d) A) : WE B (tC v) ρ A Q := fun σ H Qv e w c => c _ (.dat d) A H w (Tk.refl H) (h H) k
theorem we_mono {Q' : Vd → Led → Prop} (h : WE B ta ρ A Q) (k : ∀ d A', Q d A' → Q' d A') : WE B ta ρ A Q' := fun σ H Qv e w c => h σ H Qv e w fun z d A' H' w' t rv q => c z d A' H' w' t rv (k _ _ q)
theorem we_op (h : WE B ta ρ A fun x A1 => WE B tb ρ A1 fun y A2 => RW B r x y A2 Q) : WE B (tOp r ta tb) ρ A Q := fun σ H Qv e w c =>
  h σ H _ e w fun v d A1 H1 w1 t1 r1 q1 => q1 σ H1 _ (e.up t1) w1 fun u d2 A2 H2 w2 t2 r2 q2 => q2 v u H2 Qv (r1.up t2) r2 w2 (c.on (t1.trans t2))
theorem we_un {r : V → Hp → VK → Prop} (h : WE B ta ρ A fun x A1 => RU B r x A1 Q) : WE B (tUn r ta) ρ A Q := fun σ H Qv e w c =>
  h σ H _ e w fun v d A1 H1 w1 t1 r1 q1 => q1 v H1 Qv r1 w1 (c.on t1)
theorem wa_nil {Q : List Vd → Led → Prop} (k : Q [] A) : WA B tNil ρ A Q := fun σ H Qv e w c => c _ [] A H w (Tk.refl H) .nil k
theorem wa_cons {t : TA} {Q : List Vd → Led → Prop} (h : WE B ta ρ A fun x A1 => WA B t ρ A1 fun xs A2 => Q (x :: xs) A2) : WA B (tCons ta t) ρ A Q := fun σ H Qv e w c =>
  h σ H _ e w fun v d A1 H1 w1 t1 r1 q1 => q1 σ H1 _ (e.up t1) w1 fun vs ds A2 H2 w2 t2 r2 q2 => c _ (d :: ds) A2 H2 w2 (t1.trans t2) (.cons (r1.up t2) r2) q2
theorem we_call {sp : Sp} {dvs : List V} {E : XK} {t : TA} {ds : List Vd} (hd : ∀ H, RVs B.K H dvs ds) (h : WA B t ρ A fun xs A1 => RS B sp (xs ++ ds) A1 Q) : WE B (tCall sp dvs E t) ρ A Q := fun σ H Qv e w c =>
  h σ H _ e w fun vs xs A1 H1 w1 t1 r1 q1 => q1 _ H1 Qv E (RVs.append r1 (hd H1)) w1 (c.on t1)
theorem we_call0 {sp : Sp} {E : XK} {t : TA} (h : WA B t ρ A fun xs A1 => RS B sp xs A1 Q) : WE B (tCall sp [] E t) ρ A Q := fun σ H Qv e w c =>
  h σ H _ e w fun vs xs A1 H1 w1 t1 r1 q1 => by
    show sp (vs ++ []) H1 Qv E
    rw [List.append_nil]
    exact q1 _ H1 Qv E r1 w1 (c.on t1)
theorem we_cb {r : List V → Hp → VK → Prop} {t : TA} (h : WA B t ρ A fun xs A1 => RL B r xs A1 Q) : WE B (tCB r t) ρ A Q := fun σ H Qv e w c =>
  h σ H _ e w fun vs xs A1 H1 w1 t1 r1 q1 => q1 vs H1 Qv r1 w1 (c.on t1)
/-- the addresses among values stay -/
def undat : Vd → Option PyData
  | .dat d => some d
  | .raw _ => none
def undats : List Vd → Option (List PyData)
  | [] => some []
  | .dat d :: r => match undats r with
    | some ds => some (d :: ds)
    | none => none
  | .raw _ :: _ => none
theorem undats_is : ∀ {xs : List Vd} {ds : List PyData}, undats xs = some ds → xs = dats ds
  | [], ds, h => by cases h; rfl
  | .dat d :: r, ds, h => by
    unfold undats at h
    cases e : undats r with
    | none => rw [e] at h; cases h
    | some es =>
      rw [e] at h
      cases h
      rw [undats_is e]
      rfl
  | .raw _ :: _, _, h => by cases h
theorem we_tup {t : TA} (h : WA B t ρ A fun xs A1 => ∃ ds, undats xs = some ds ∧ ds.length ≤ 1000000 ∧ Q (.dat (.tuple ds)) A1) : WE B (tTup t) ρ A Q := fun σ H Qv e w c =>
  h σ H _ e w fun vs xs A1 H1 w1 t1 r1 q1 => by
    obtain ⟨ds, eds, hl, q⟩ := q1
    cases undats_is eds
    have d := RVs.dts r1
    refine ⟨by rw [d.length]; exact Nat.le_of_lt (smallL hl), fun p np => c _ (.dat (.tuple ds)) A1 _ (w1.same (same_new np)) (t1.trans (tk_new np)) (DT.new d np) q⟩
theorem we_lst {t : TA} (h : WA B t ρ A fun xs A1 => xs.length ≤ 1000000 ∧ ∀ p, Q (.ref p) ((p, .lst xs) :: A1)) : WE B (tLst t) ρ A Q := fun σ H Qv e w c =>
  h σ H _ e w fun vs xs A1 H1 w1 t1 r1 q1 => by
    refine ⟨by rw [RVs.length r1]; exact Nat.le_of_lt (smallL q1.1), fun p np => c _ (.ref p) _ _ (w1.laid np (c := .lst xs) ⟨vs, upd_same, RVs.up r1 (tk_new np)⟩) (t1.trans (tk_new np)) rfl (q1.2 p)⟩
theorem we_if {t : TT} (h : WT B t ρ A fun b A1 => if b = true then WE B ta ρ A1 Q else WE B tb ρ A1 Q) : WE B (tIf t ta tb) ρ A Q := fun σ H Qv e w c =>
  h σ H _ e w fun b A1 H1 w1 t1 q1 => by
    cases b with
    | true => exact q1 σ H1 Qv (e.up t1) w1 (c.on t1)
    | false => exact q1 σ H1 Qv (e.up t1) w1 (c.on t1)
end
section
variable {B : Bd} {ρ : Rho} {A : Led} {Q : Bool → Led → Prop} {t u : TT} {ta : TE}
theorem wt_test (h : WE B ta ρ A fun x A1 => ∃ k, x = .bl k ∧ Q k A1) : WT B (tTest ta) ρ A Q := fun σ H Qv e w c =>
  h σ H _ e w fun v d A1 H1 w1 t1 r1 q1 => by
    obtain ⟨k, rfl, q⟩ := q1
    exact ⟨k, DT.blOf r1, c k A1 H1 w1 t1 q⟩
theorem wt_b (h : WE B ta ρ A fun x A1 => ∃ k, x = .bl k ∧ Q k A1) : WT B (tB ta) ρ A Q := fun σ H Qv e w c =>
  h σ H _ e w fun v d A1 H1 w1 t1 r1 q1 => by
    obtain ⟨k, rfl, q⟩ := q1
    exact ⟨k, DT.blOf r1, c k A1 H1 w1 t1 q⟩
theorem wt_and (h : WT B t ρ A fun b A1 => if b = true then WT B u ρ A1 Q else Q false A1) : WT B (tAnd t u) ρ A Q := fun σ H Qv e w c =>
  h σ H _ e w fun b A1 H1 w1 t1 q1 => by
    cases b with
    | true => exact q1 σ H1 Qv (e.up t1) w1 fun b A2 H2 w2 t2 q => c b A2 H2 w2 (t1.trans t2) q
    | false => exact c false A1 H1 w1 t1 q1
theorem wt_or (h : WT B t ρ A fun b A1 => if b = true then Q true A1 else WT B u ρ A1 Q) : WT B (tOr t u) ρ A Q := fun σ H Qv e w c =>
  h σ H _ e w fun b A1 H1 w1 t1 q1 => by
    cases b with
    | false => exact q1 σ H1 Qv (e.up t1) w1 fun b A2 H2 w2 t2 q => c b A2 H2 w2 (t1.trans t2) q
    | true => exact c true A1 H1 w1 t1 q1
theorem wt_not (h : WT B t ρ A fun b A1 => Q (!b) A1) : WT B (tNot t) ρ A Q := fun σ H Qv e w c =>
  h σ H _ e w fun b A1 H1 w1 t1 q1 => c _ A1 H1 w1 t1 q1
theorem wt_yes (h : Q true A) : WT B tYes ρ A Q := fun σ H Qv e w c => c true A H w (Tk.refl H) h
end
section
variable {B : Bd} {ρ : Rho} {A : Led} {Q : Vd → Led → Prop} {ta tb tc : TE} {r r' : R2}
theorem we_andV (h : WE B ta ρ A fun x A1 => ∃ k, x = .bl k ∧ if k = true then WE B tb ρ A1 Q else Q (.bl false) A1) : WE B (tAndV ta tb) ρ A Q := fun σ H Qv e w c =>
  h σ H _ e w fun v d A1 H1 w1 t1 r1 q1 => by
    obtain ⟨k, rfl, q⟩ := q1
    refine ⟨k, DT.blOf r1, ?_⟩
    cases k with
    | true => exact q σ H1 Qv (e.up t1) w1 (c.on t1)
    | false => exact c _ (.bl false) A1 H1 w1 t1 (DT.bl false) q
theorem we_orV (h : WE B ta ρ A fun x A1 => ∃ k, x = .bl k ∧ if k = true then Q (.bl true) A1 else WE B tb ρ A1 Q) : WE B (tOrV ta tb) ρ A Q := fun σ H Qv e w c =>
  h σ H _ e w fun v d A1 H1 w1 t1 r1 q1 => by
    obtain ⟨k, rfl, q⟩ := q1
    refine ⟨k, DT.blOf r1, ?_⟩
    cases k with
    | false => exact q σ H1 Qv (e.up t1) w1 (c.on t1)
    | true => exact c _ (.bl true) A1 H1 w1 t1 (DT.bl true) q
theorem we_notV (h : WE B ta ρ A fun x A1 => ∃ k, x = .bl k ∧ Q (.bl (!k)) A1) : WE B (tNotV ta) ρ A Q := fun σ H Qv e w c =>
  h σ H _ e w fun v d A1 H1 w1 t1 r1 q1 => by
    obtain ⟨k, rfl, q⟩ := q1
    exact ⟨k, DT.blOf r1, c _ (.bl (!k)) A1 H1 w1 t1 (DT.bl _) q⟩
theorem we_chain (h : WE B ta ρ A fun x A1 => WE B tb ρ A1 fun y A2 => RW B r x y A2 fun z A3 => ∃ k, z = .bl k ∧ if k = true then WE B tc ρ A3 fun z A4 => RW B r' y z A4 Q else Q (.bl false) A3) : WE B (tChain r r' ta tb tc) ρ A Q := fun σ H Qv e w c =>
  h σ H _ e w fun v d A1 H1 w1 t1 r1 q1 => q1 σ H1 _ (e.up t1) w1 fun u d2 A2 H2 w2 t2 r2 q2 => q2 v u H2 _ (r1.up t2) r2 w2 fun z d3 A3 H3 w3 t3 r3 q3 => by
    obtain ⟨k, rfl, q⟩ := q3
    refine ⟨k, DT.blOf r3, ?_⟩
    cases k with
    | true => exact q σ H3 _ (e.up (t1.trans (t2.trans t3))) w3 fun z d4 A4 H4 w4 t4 r4 q4 => q4 u z H4 Qv (r2.up (t3.trans t4)) r4 w4 (c.on (t1.trans (t2.trans (t3.trans t4))))
    | false => exact c _ (.bl false) A3 H3 w3 (t1.trans (t2.trans t3)) (DT.bl false) q
/-! operators -/
theorem rw_I0i {f : Int → Int → Int} {i j : Int} (k : Q (.int (f i j)) A) : RW B (rI0 fun i j => .int (f i j)) (.dat (.int i)) (.dat (.int j)) A Q := fun v u H Qv rv ru w c => ⟨i, j, DT.intOf rv, DT.intOf ru, c _ (.int _) A H w (Tk.refl H) (DT.int _) k⟩
theorem rw_I0b {f : Int → Int → Bool} {i j : Int} (k : Q (.bl (f i j)) A) : RW B (rI0 fun i j => .bl (f i j)) (.dat (.int i)) (.dat (.int j)) A Q := fun v u H Qv rv ru w c => ⟨i, j, DT.intOf rv, DT.intOf ru, c _ (.bl _) A H w (Tk.refl H) (DT.bl _) k⟩
theorem rw_Ii {C : Int → Int → Prop} {f : Int → Int → Int} {i j : Int} (h : C i j) (k : Q (.int (f i j)) A) : RW B (rI C fun i j => .int (f i j)) (.dat (.int i)) (.dat (.int j)) A Q := fun v u H Qv rv ru w c => ⟨i, j, DT.intOf rv, DT.intOf ru, h, c _ (.int _) A H w (Tk.refl H) (DT.int _) k⟩
theorem ru_i {f : Int → Int} {i : Int} (k : Q (.int (f i)) A) : RU B (rU fun i => .int (f i)) (.dat (.int i)) A Q := fun v H Qv rv w c => ⟨i, DT.intOf rv, c _ (.int _) A H w (Tk.refl H) (DT.int _) k⟩
theorem rw_eqi {i j : Int} (k : Q (.bl (decide (i = j))) A) : RW B rEq (.dat (.int i)) (.dat (.int j)) A Q := fun v u H Qv rv ru w c => by
  cases DT.intOf rv
  cases DT.intOf ru
  refine ⟨rfl, c _ (.bl (decide (i = j))) A H w (Tk.refl H) ?_ k⟩
  have e : decide (V.int i = V.int j) = decide (i = j) := by
    by_cases h : i = j
    · rw [h]; simp
    · rw [decide_eq_false h, decide_eq_false (fun z => h (V.int.inj z))]
  rw [e]
  exact DT.bl _
theorem rw_nei {i j : Int} (k : Q (.bl (!decide (i = j))) A) : RW B rNe (.dat (.int i)) (.dat (.int j)) A Q := fun v u H Qv rv ru w c => by
  cases DT.intOf rv
  cases DT.intOf ru
  refine ⟨rfl, c _ (.bl (!decide (i = j))) A H w (Tk.refl H) ?_ k⟩
  have e : decide (V.int i = V.int j) = decide (i = j) := by
    by_cases h : i = j
    · rw [h]; simp
    · rw [decide_eq_false h, decide_eq_false (fun z => h (V.int.inj z))]
  rw [e]
  exact DT.bl _
theorem rw_eqs {i j : Str} (k : Q (.bl (decide (i = j))) A) : RW B rEq (.dat (.str i)) (.dat (.str j)) A Q := fun v u H Qv rv ru w c => by
  cases DT.strOf rv
  cases DT.strOf ru
  refine ⟨rfl, c _ (.bl (decide (i = j))) A H w (Tk.refl H) ?_ k⟩
  have e : decide (V.str i = V.str j) = decide (i = j) := by
    by_cases h : i = j
    · rw [h]; simp
    · rw [decide_eq_false h, decide_eq_false (fun z => h (V.str.inj z))]
  rw [e]
  exact DT.bl _
theorem rw_nes {i j : Str} (k : Q (.bl (!decide (i = j))) A) : RW B rNe (.dat (.str i)) (.dat (.str j)) A Q := fun v u H Qv rv ru w c => by
  cases DT.strOf rv
  cases DT.strOf ru
  refine ⟨rfl, c _ (.bl (!decide (i = j))) A H w (Tk.refl H) ?_ k⟩
  have e : decide (V.str i = V.str j) = decide (i = j) := by
    by_cases h : i = j
    · rw [h]; simp
    · rw [decide_eq_false h, decide_eq_false (fun z => h (V.str.inj z))]
  rw [e]
  exact DT.bl _
theorem rw_ixT {ds : List PyData} {i : Int} {d : PyData} (h : atI ds i = some d) (k : Q (.dat d) A) : RW B (rIxT B.K) (.dat (.tuple ds)) (.dat (.int i)) A Q := fun v u H Qv rv ru w c => by
  cases DT.intOf ru
  exact r_ixT rv h fun v' d' => c _ (.dat d) A H w (Tk.refl H) d' k
theorem atI_of {α β : Type} {xs : List α} {ys : List β} {i : Int} {y : β} (hl : xs.length = ys.length) (h : atI ys i = some y) : ∃ k : Nat, ys[k]? = some y ∧ ∀ x, xs[k]? = some x → atI xs i = some x := by
  unfold atI at h ⊢
  rw [hl]
  cases z : ixN ys.length i with
  | none => rw [z] at h; cases h
  | some k =>
    rw [z] at h
    exact ⟨k, h, fun x hx => hx⟩
theorem rw_ixL {n : Nat} {p : Addr} {xs : List Vd} {i : Int} {d : Vd} (hk : A[n]? = some (p, .lst xs)) (h : atI xs i = some d) (k : Q d A) : RW B (rIxL B.K) (.ref p) (.dat (.int i)) A Q := fun v u H Qv rv ru w c => by
  cases DT.intOf ru
  obtain rfl : v = .ref p := rv
  obtain ⟨vs, h1, h2⟩ := w.at hk
  obtain ⟨j, hj, hx⟩ := atI_of (RVs.length h2) h
  obtain ⟨x, e1, e2⟩ := RVs.get h2 hj
  exact ⟨p, vs, i, x, rfl, rfl, SqL.of h1, hx x e1, c x d A H w (Tk.refl H) e2 k⟩
theorem rw_ixS {x : Str} {i : Int} {z : Nat} (hl : x.length ≤ sizeLine) (h : atI x.cps.toList i = some z) (k : Q (.str ⟨#[z]⟩) A) : RW B rIxS (.dat (.str x)) (.dat (.int i)) A Q := fun v u H Qv rv ru w c => by
  cases DT.intOf ru
  cases DT.strOf rv
  exact ⟨x, i, z, rfl, rfl, hl, h, c _ (.str _) A H w (Tk.refl H) (DT.str _) k⟩
theorem rw_catA {ds es : List PyData} (hl : ds.length + es.length ≤ 1000000) (k : Q (.dat (.tuple (ds ++ es))) A) : RW B (rCatA B.K) (.dat (.tuple ds)) (.dat (.tuple es)) A Q := fun v u H Qv rv ru w c => by
  have q : ∀ v' H', Same H H' → DT B.K H' v' (.tuple (ds ++ es)) → Qv v' H' := fun v' H' s' d' => c _ (.dat (.tuple (ds ++ es))) A H' (w.same s') (tk_same s') d' k
  obtain ⟨a, xs, rfl, hs, hx⟩ := DT.tupOf rv
  obtain ⟨b, ys, rfl, hs2, hy⟩ := DT.tupOf ru
  refine ⟨a, b, xs, ys, rfl, rfl, hs, hs2, ?_, fun e => ?_, fun _ e => ?_, fun _ _ p np => q _ _ (same_new np) (DT.new (hx.append hy) np)⟩
  · rw [hx.length, hy.length]
    exact Nat.le_of_lt (smallL hl)
  · subst e
    cases hx
    exact q _ _ (Same.refl H) (.tup hs2 hy)
  · subst e
    cases hy
    refine q _ _ (Same.refl H) ?_
    rw [List.append_nil]
    exact .tup hs hx
theorem rw_cat {m n : Nat} {p q : Addr} {xs ys : List Vd} (hp : A[m]? = some (p, .lst xs)) (hq : A[n]? = some (q, .lst ys)) (hl : xs.length + ys.length ≤ 1000000) (k : ∀ l, Q (.ref l) ((l, .lst (xs ++ ys)) :: A)) : RW B rCat (.ref p) (.ref q) A Q := fun v u H Qv rv ru w c => by
  obtain rfl : v = .ref p := rv
  obtain rfl : u = .ref q := ru
  obtain ⟨vs, h1, h2⟩ := w.at hp
  obtain ⟨us, h3, h4⟩ := w.at hq
  refine ⟨p, q, vs, us, rfl, rfl, h1, h3, by rw [RVs.length h2, RVs.length h4]; exact Nat.le_of_lt (smallL hl), fun l nl => ?_⟩
  exact c _ (.ref l) _ _ (w.laid nl (c := .lst (xs ++ ys)) ⟨_, upd_same, RVs.append (RVs.up h2 (tk_new nl)) (RVs.up h4 (tk_new nl))⟩) (tk_new nl) rfl (k l)
theorem rw_eqD {d e : PyData} (h1 : SeqAt.shaped d = true) (h2 : SeqAt.shaped e = true) (k : Q (.bl (PyData.eqv d e)) A) : RW B (rEqD B.K) (.dat d) (.dat e) A Q := fun v u H Qv rv ru w c =>
  ⟨d, e, DT.dp d v rv, DT.dp e u ru, h1, h2, c _ (.bl _) A H w (Tk.refl H) (DT.bl _) k⟩
theorem rw_neD {d e : PyData} (h1 : SeqAt.shaped d = true) (h2 : SeqAt.shaped e = true) (k : Q (.bl (!PyData.eqv d e)) A) : RW B (rNeD B.K) (.dat d) (.dat e) A Q := fun v u H Qv rv ru w c =>
  ⟨d, e, DT.dp d v rv, DT.dp e u ru, h1, h2, c _ (.bl _) A H w (Tk.refl H) (DT.bl _) k⟩
theorem dpl {K : PySem.W.Frag} {H : Hp} {p : Addr} {vs : List V} {ds : List PyData} (h : H p = some (.lst vs)) (r : RVs K H vs (dats ds)) : Dp K H (.ref p) (.list ds) := .lst (SqL.of h) (DTs.dp ds vs (RVs.dts r))
theorem rw_eqDl {m n : Nat} {p q : Addr} {ds es : List PyData} (hp : A[m]? = some (p, .lst (dats ds))) (hq : A[n]? = some (q, .lst (dats es))) (h1 : SeqAt.shaped (.list ds) = true) (h2 : SeqAt.shaped (.list es) = true) (k : Q (.bl (PyData.eqv (.list ds) (.list es))) A) : RW B (rEqD B.K) (.ref p) (.ref q) A Q := fun v u H Qv rv ru w c => by
  obtain rfl : v = .ref p := rv
  obtain rfl : u = .ref q := ru
  obtain ⟨vs, a1, a2⟩ := w.at hp
  obtain ⟨us, b1, b2⟩ := w.at hq
  exact ⟨.list ds, .list es, dpl a1 a2, dpl b1 b2, h1, h2, c _ (.bl _) A H w (Tk.refl H) (DT.bl _) k⟩
theorem rw_neDl {m n : Nat} {p q : Addr} {ds es : List PyData} (hp : A[m]? = some (p, .lst (dats ds))) (hq : A[n]? = some (q, .lst (dats es))) (h1 : SeqAt.shaped (.list ds) = true) (h2 : SeqAt.shaped (.list es) = true) (k : Q (.bl (!PyData.eqv (.list ds) (.list es))) A) : RW B (rNeD B.K) (.ref p) (.ref q) A Q := fun v u H Qv rv ru w c => by
  obtain rfl : v = .ref p := rv
  obtain rfl : u = .ref q := ru
  obtain ⟨vs, a1, a2⟩ := w.at hp
  obtain ⟨us, b1, b2⟩ := w.at hq
  exact ⟨.list ds, .list es, dpl a1 a2, dpl b1 b2, h1, h2, c _ (.bl _) A H w (Tk.refl H) (DT.bl _) k⟩
theorem rw_inDl {n : Nat} {q : Addr} {d : PyData} {es : List PyData} (hq : A[n]? = some (q, .lst (dats es))) (h1 : SeqAt.shaped d = true) (h2 : SeqAt.shaped (.list es) = true) (k : Q (.bl (es.any fun z => PyData.eqv z d)) A) : RW B (rInD B.K) (.dat d) (.ref q) A Q := fun v u H Qv rv ru w c => by
  obtain rfl : u = .ref q := ru
  obtain ⟨us, b1, b2⟩ := w.at hq
  exact ⟨d, es, DT.dp d v rv, dpl b1 b2, h1, h2, c _ (.bl _) A H w (Tk.refl H) (DT.bl _) k⟩
theorem rw_notInDl {n : Nat} {q : Addr} {d : PyData} {es : List PyData} (hq : A[n]? = some (q, .lst (dats es))) (h1 : SeqAt.shaped d = true) (h2 : SeqAt.shaped (.list es) = true) (k : Q (.bl (!es.any fun z => PyData.eqv z d)) A) : RW B (rNotInD B.K) (.dat d) (.ref q) A Q := fun v u H Qv rv ru w c => by
  obtain rfl : u = .ref q := ru
  obtain ⟨us, b1, b2⟩ := w.at hq
  exact ⟨d, es, DT.dp d v rv, dpl b1 b2, h1, h2, c _ (.bl _) A H w (Tk.refl H) (DT.bl _) k⟩
end
/-! ### statements -/
structure EndsD where
  nx : Rho → Led → Prop
  rt : Vd → Led → Prop
  bk : Rho → Led → Prop := fun _ _ => False
  ct : Rho → Led → Prop := fun _ _ => False
def RetS (B : Bd) (H : Hp) (N : Rho → Led → Prop) (Qs : L2.St → Hp → Prop) : Prop := ∀ σ' H' ρ' A', Tk H H' → REnv B.K H' σ' ρ' → Wd B A' H' → N ρ' A' → Qs σ' H'
structure EOk (B : Bd) (H : Hp) (E : Ends) (D : EndsD) : Prop where
  nx : RetS B H D.nx E.nx
  rt : Ret B H D.rt E.rt
  bk : RetS B H D.bk E.bk
  ct : RetS B H D.ct E.ct
theorem RetS.on {B : Bd} {H H' : Hp} {N : Rho → Led → Prop} {Qs : L2.St → Hp → Prop} (c : RetS B H N Qs) (t : Tk H H') : RetS B H' N Qs := fun σ H2 ρ A t2 e w q => c σ H2 ρ A (t.trans t2) e w q
theorem EOk.on {B : Bd} {H H' : Hp} {E : Ends} {D : EndsD} (c : EOk B H E D) (t : Tk H H') : EOk B H' E D := ⟨c.nx.on t, c.rt.on t, c.bk.on t, c.ct.on t⟩
def WS (B : Bd) (ts : TS) (ρ : Rho) (A : Led) (D : EndsD) : Prop := ∀ σ H (E : Ends), REnv B.K H σ ρ → Wd B A H → EOk B H E D → ts E σ H
def WG (B : Bd) (g : TG) (x : Vd) (ρ : Rho) (A : Led) (N : Rho → Led → Prop) : Prop := ∀ v σ H (Qs : L2.St → Hp → Prop), RV B.K H v x → REnv B.K H σ ρ → Wd B A H → RetS B H N Qs → g v σ H Qs
def WGs (B : Bd) (g : TGs) (xs : List Vd) (ρ : Rho) (A : Led) (N : Rho → Led → Prop) : Prop := ∀ vs σ H (Qs : L2.St → Hp → Prop), RVs B.K H vs xs → REnv B.K H σ ρ → Wd B A H → RetS B H N Qs → g vs σ H Qs
section
variable {B : Bd} {ρ : Rho} {A : Led} {D : EndsD} {N : Rho → Led → Prop} {ta tb : TE} {t u : TS} {c : TT} {g : TG} {gs : TGs} {x : Vd}
theorem ws_seq (h : WS B t ρ A { D with nx := fun ρ' A' => WS B u ρ' A' D }) : WS B (tSeq t u) ρ A D := fun σ H E e w k =>
  h σ H { E with nx := u E } e w ⟨fun σ' H' ρ' A' t' e' w' q => q σ' H' E e' w' (k.on t'), k.rt, k.bk, k.ct⟩
theorem ws_cut (M : Rho → Led → Prop) (h : WS B t ρ A { D with nx := M }) (h2 : ∀ ρ' A', M ρ' A' → WS B u ρ' A' D) : WS B (Evl.tCut t u) ρ A D := fun σ H E e w k =>
  ⟨fun σ' H' => ∃ ρ' A', Tk H H' ∧ REnv B.K H' σ' ρ' ∧ Wd B A' H' ∧ M ρ' A', h σ H _ e w ⟨fun σ' H' ρ' A' t' e' w' q => ⟨ρ', A', t', e', w', q⟩, k.rt, k.bk, k.ct⟩, fun σ' H' ⟨ρ', A', t', e', w', q⟩ => h2 ρ' A' q σ' H' E e' w' (k.on t')⟩
theorem ws_asg (h : WE B ta ρ A fun x A1 => WG B g x ρ A1 D.nx) : WS B (tAsg ta g) ρ A D := fun σ H E e w k =>
  h σ H _ e w fun v d A1 H1 w1 t1 r1 q1 => q1 v σ H1 E.nx r1 (e.up t1) w1 (k.nx.on t1)
theorem ws_drop (h : WE B ta ρ A fun _ A1 => D.nx ρ A1) : WS B (tDrop ta) ρ A D := fun σ H E e w k =>
  h σ H _ e w fun v d A1 H1 w1 t1 r1 q1 => k.nx σ H1 ρ A1 t1 (e.up t1) w1 q1
theorem ws_ret (h : WE B ta ρ A D.rt) : WS B (tRet ta) ρ A D := fun σ H E e w k => h σ H _ e w k.rt
theorem ws_retN (h : D.rt (.dat .none) A) : WS B tRetN ρ A D := fun σ H E e w k => k.rt _ (.dat .none) A H w (Tk.refl H) DT.non h
theorem ws_next (h : D.nx ρ A) : WS B tNext ρ A D := fun σ H E e w k => k.nx σ H ρ A (Tk.refl H) e w h
theorem ws_break (h : D.bk ρ A) : WS B tBreak ρ A D := fun σ H E e w k => k.bk σ H ρ A (Tk.refl H) e w h
theorem ws_cont (h : D.ct ρ A) : WS B tCont ρ A D := fun σ H E e w k => k.ct σ H ρ A (Tk.refl H) e w h
theorem ws_if (h : WT B c ρ A fun b A1 => if b = true then WS B t ρ A1 D else WS B u ρ A1 D) : WS B (tIfS c t u) ρ A D := fun σ H E e w k =>
  h σ H _ e w fun b A1 H1 w1 t1 q1 => by
    cases b with
    | true => exact q1 σ H1 E (e.up t1) w1 (k.on t1)
    | false => exact q1 σ H1 E (e.up t1) w1 (k.on t1)
theorem ws_par {i j : Nat} {ta : TA} (h : WA B ta ρ A fun ds A1 => ∃ d e, ds = [d, e] ∧ D.nx ((ρ.set i (some d)).set j (some e)) A1) : WS B (tPar i j ta) ρ A D := fun σ H E e w k =>
  h σ H _ e w fun vs ds A1 H1 w1 t1 r1 q1 => by
    obtain ⟨d, e2, rfl, q⟩ := q1
    cases r1 with
    | cons r1 r2 => cases r2 with
      | cons r2 r3 => cases r3; exact ⟨_, _, rfl, k.nx _ H1 _ A1 t1 (((e.up t1).set i r1).set j r2) w1 q⟩
theorem ws_par3 {i j l : Nat} {ta : TA} (h : WA B ta ρ A fun ds A1 => ∃ d e f, ds = [d, e, f] ∧ D.nx (((ρ.set i (some d)).set j (some e)).set l (some f)) A1) : WS B (tPar3 i j l ta) ρ A D := fun σ H E e w k =>
  h σ H _ e w fun vs ds A1 H1 w1 t1 r1 q1 => by
    obtain ⟨d, e2, f, rfl, q⟩ := q1
    cases r1 with
    | cons r1 r2 => cases r2 with
      | cons r2 r3 => cases r3 with
        | cons r3 r4 => cases r4; exact ⟨_, _, _, rfl, k.nx _ H1 _ A1 t1 ((((e.up t1).set i r1).set j r2).set l r3) w1 q⟩
theorem wg_name {i : Nat} (h : N (ρ.set i (some x)) A) : WG B (gName i) x ρ A N := fun v σ H Qs r e w k => k _ H _ A (Tk.refl H) (e.set i r) w h
theorem wgs_nil (h : N ρ A) : WGs B gNil [] ρ A N := fun vs σ H Qs r e w k => by
  cases r
  exact ⟨rfl, k _ H _ A (Tk.refl H) e w h⟩
theorem wgs_cons {xs : List Vd} (h : WG B g x ρ A fun ρ' A' => WGs B gs xs ρ' A' N) : WGs B (gCons g gs) (x :: xs) ρ A N := fun vs σ H Qs r e w k => by
  cases r with
  | cons r rs => exact ⟨_, _, rfl, h _ σ H _ r e w fun σ' H' ρ' A' t' e' w' q => q _ σ' H' Qs (RVs.up rs t') e' w' (k.on t')⟩
theorem wg_tup {n : Nat} {ds : List PyData} (hl : ds.length = n) (h : WGs B gs (dats ds) ρ A N) : WG B (gTup B.K n gs) (.dat (.tuple ds)) ρ A N := fun v σ H Qs r e w k => by
  obtain ⟨a, xs, rfl, hs, hx⟩ := DT.tupOf r
  exact ⟨a, xs, rfl, hs, by rw [hx.length]; exact hl, h xs σ H Qs hx.rvs e w k⟩
theorem wg_setL {to ti : TE} (h : WE B to ρ A fun o A1 => WE B ti ρ A1 fun i A2 => ∃ n p xs k j, o = .ref p ∧ i = .int k ∧ A2[n]? = some (p, .lst xs) ∧ ixN xs.length k = some j ∧ N ρ (A2.set n (p, .lst (xs.set j x)))) : WG B (gSub to ti rSetL) x ρ A N := fun v σ H Qs r e w c =>
  h σ H _ e w fun o d A1 H1 w1 t1 r1 q1 => q1 σ H1 _ (e.up t1) w1 fun i d2 A2 H2 w2 t2 r2 q2 => by
    obtain ⟨n, p, xs, k, j, rfl, rfl, hn, hj, q⟩ := q2
    obtain rfl : o = .ref p := r1
    cases DT.intOf r2
    obtain ⟨vs, h1, h2⟩ := w2.at hn
    have tk := tk_mut (o' := HO.lst (vs.set j v)) h1 trivial
    refine ⟨p, vs, k, j, rfl, rfl, h1, by rw [RVs.length h2]; exact hj, c _ _ ρ _ ((t1.trans t2).trans tk) (e.up ((t1.trans t2).trans tk)) (w2.set hn (c' := .lst (xs.set j x)) ⟨_, upd_same, RVs.set ((r.up (t1.trans t2)).up tk) j (RVs.up h2 tk)⟩) q⟩
end
/-! ### what a loop walks -/
structure WkD (B : Bd) (H1 : Hp) (J : It) (n : Nat) (G : Led → Prop) (Y : Nat → Vd) : Prop where
  goes : ∀ i A H, i < n → Wd B A H → Tk H1 H → G A → J.go i H
  stops : ∀ A H, Wd B A H → Tk H1 H → G A → J.stop n H
  yields : ∀ i A H x H', i < n → Wd B A H → Tk H1 H → G A → J.yld i H x H' → Same H H' ∧ RV B.K H' x (Y i)
def WI (B : Bd) (wi : TI) (ρ : Rho) (A : Led) (R : Nat → (Led → Prop) → (Nat → Vd) → Led → Prop) : Prop := ∀ σ H (Rv : It → Hp → Prop), REnv B.K H σ ρ → Wd B A H →
  (∀ J n G Y A' H', Wd B A' H' → Tk H H' → (∀ B2 : Bd, B2.K = B.K → WkD B2 H' J n G Y) → R n G Y A' → Rv J H') → wi σ H Rv
section
variable {B : Bd} {ρ : Rho} {A : Led} {D : EndsD} {wi : TI} {g : TG} {tb : TS}
theorem ws_for (h : WI B wi ρ A fun n G Y A1 => ∃ I : Nat → Rho → Led → Prop, I 0 ρ A1 ∧ (∀ i ρ' A', i ≤ n → I i ρ' A' → G A') ∧
    (∀ i ρ' A', i < n → I i ρ' A' → WG B g (Y i) ρ' A' fun ρ2 A2 => WS B tb ρ2 A2 { nx := I (i + 1), rt := D.rt, ct := I (i + 1), bk := D.nx }) ∧ ∀ ρ' A', I n ρ' A' → D.nx ρ' A') : WS B (tFor wi g tb) ρ A D := fun σ H E e w k =>
  h σ H _ e w fun J n G Y A1 H1 w1 t1 wk ⟨I, h0, hG, hs, hd⟩ => by
    have wk := wk B rfl
    refine ⟨fun i m σ' H' => m = n - i ∧ i ≤ n ∧ ∃ ρ' A', REnv B.K H' σ' ρ' ∧ Wd B A' H' ∧ Tk H1 H' ∧ I i ρ' A', ⟨n, rfl, Nat.zero_le _, ρ, A1, e.up t1, w1, Tk.refl H1, h0⟩, ?_⟩
    rintro i m σ' H' ⟨rfl, hi, ρ', A', e', w', t', q⟩
    have hg := hG i ρ' A' hi q
    by_cases hlt : i < n
    · refine .inr ⟨wk.goes i A' H' hlt w' t' hg, fun σ2 H2 => ∃ ρ2 A2, REnv B.K H2 σ2 ρ2 ∧ Wd B A2 H2 ∧ Tk H1 H2 ∧ I (i + 1) ρ2 A2, fun σ2 H2 q2 => ⟨n - (i + 1), by omega, rfl, hlt, q2⟩, fun x H2 y => ?_⟩
      obtain ⟨s2, r2⟩ := wk.yields i A' H' x H2 hlt w' t' hg y
      refine hs i ρ' A' hlt q x σ' H2 _ r2 (e'.up (tk_same s2)) (w'.same s2) fun σ3 H3 ρ3 A3 t3 e3 w3 q3 => q3 σ3 H3 _ e3 w3 ?_
      have t13 : Tk H1 H3 := (t'.trans (tk_same s2)).trans t3
      exact ⟨fun σ4 H4 ρ4 A4 t4 e4 w4 q4 => ⟨ρ4, A4, e4, w4, t13.trans t4, q4⟩, k.rt.on (t1.trans t13), k.nx.on (t1.trans t13), fun σ4 H4 ρ4 A4 t4 e4 w4 q4 => ⟨ρ4, A4, e4, w4, t13.trans t4, q4⟩⟩
    · have z : i = n := by omega
      subst z
      exact .inl ⟨wk.stops A' H' w' t' hg, k.nx σ' H' ρ' A' (t1.trans t') e' w' (hd ρ' A' q)⟩
theorem wi_rng1 {ta : TA} {R : Nat → (Led → Prop) → (Nat → Vd) → Led → Prop} (h : WA B ta ρ A fun ds A1 => ∃ j : Int, ds = [.int j] ∧ -(2 ^ 62) ≤ j ∧ j < 2 ^ 62 ∧ R j.toNat (fun _ => True) (fun i => .int (0 + (i : Int))) A1) : WI B (iRng1 ta) ρ A R := fun σ H Rv e w k =>
  h σ H _ e w fun vs ds A1 H1 w1 t1 r1 q1 => by
    obtain ⟨j, rfl, h1, h2, q⟩ := q1
    cases r1 with
    | cons r rs =>
      cases rs
      cases DT.intOf r
      exact ⟨j, rfl, h1, h2, k _ _ _ _ A1 H1 w1 t1 (fun B2 _ => ⟨fun i A H hi _ _ _ => hi, fun A H _ _ _ => Nat.le_refl _, fun i A H x H' _ _ _ _ y => by
        obtain ⟨rfl, rfl⟩ := y
        exact ⟨Same.refl _, DT.int _⟩⟩) q⟩
theorem wi_rng2 {ta : TA} {R : Nat → (Led → Prop) → (Nat → Vd) → Led → Prop} (h : WA B ta ρ A fun ds A1 => ∃ i j : Int, ds = [.int i, .int j] ∧ (-(2 ^ 62) ≤ i ∧ i < 2 ^ 62 ∧ -(2 ^ 62) ≤ j ∧ j < 2 ^ 62) ∧ R (j - i).toNat (fun _ => True) (fun k => .int (i + (k : Int))) A1) : WI B (iRng2 ta) ρ A R := fun σ H Rv e w k =>
  h σ H _ e w fun vs ds A1 H1 w1 t1 r1 q1 => by
    obtain ⟨i, j, rfl, h1, q⟩ := q1
    cases r1 with
    | cons r rs => cases rs with
      | cons r2 rs =>
        cases rs
        cases DT.intOf r
        cases DT.intOf r2
        exact ⟨i, j, rfl, h1, k _ _ _ _ A1 H1 w1 t1 (fun B2 _ => ⟨fun i A H hi _ _ _ => hi, fun A H _ _ _ => Nat.le_refl _, fun i A H x H' _ _ _ _ y => by
          obtain ⟨rfl, rfl⟩ := y
          exact ⟨Same.refl _, DT.int _⟩⟩) q⟩
theorem wi_tup {te : TE} {R : Nat → (Led → Prop) → (Nat → Vd) → Led → Prop} (h : WE B te ρ A fun d A1 => ∃ ds, d = .dat (.tuple ds) ∧ R ds.length (fun _ => True) (fun i => .dat (ds.getD i .none)) A1) : WI B (iTup B.K te) ρ A R := fun σ H Rv e w k =>
  h σ H _ e w fun v d A1 H1 w1 t1 r1 q1 => by
    obtain ⟨ds, rfl, q⟩ := q1
    obtain ⟨a, xs, rfl, hs, hx⟩ := DT.tupOf r1
    refine ⟨a, rfl, ⟨xs, hs⟩, k _ _ _ _ A1 H1 w1 t1 (fun B2 eK => ?_) q⟩
    have hl := hx.length
    refine ⟨fun i A H hi _ t _ => ⟨xs, xs[i]'(by omega), tk_seq t hs, by simp [hl, hi]⟩, fun A H _ t _ => ⟨xs, tk_seq t hs, by omega⟩, fun i A H x H' hi _ t _ y => ?_⟩
    obtain ⟨rfl, y⟩ := y
    obtain ⟨d, hd, hdt⟩ := (hx.up t).getV (y xs (tk_seq t hs))
    refine ⟨Same.refl _, ?_⟩
    rw [List.getD_eq_getElem?_getD, hd, eK]
    exact hdt
/-- over a list that the body leaves as it is -/
theorem wi_list {te : TE} {R : Nat → (Led → Prop) → (Nat → Vd) → Led → Prop} (h : WE B te ρ A fun d A1 => ∃ p xs, d = .ref p ∧ (p, .lst xs) ∈ A1 ∧ R xs.length (fun A => (p, Cell.lst xs) ∈ A) (fun i => xs.getD i (.dat .none)) A1) : WI B (iList B.K te) ρ A R := fun σ H Rv e w k =>
  h σ H _ e w fun v d A1 H1 w1 t1 r1 q1 => by
    obtain ⟨p, xs, rfl, hp, q⟩ := q1
    obtain rfl : v = .ref p := r1
    obtain ⟨vs, h1, h2⟩ := w1.led.has _ hp
    refine ⟨p, rfl, ⟨vs, SqL.of h1⟩, k _ _ _ _ A1 H1 w1 t1 (fun B2 eK => ⟨fun i A H hi w _ hA => ?_, fun A H w _ hA => ?_, fun i A H x H' hi w _ hA y => ?_⟩) q⟩
    · obtain ⟨us, h3, h4⟩ := w.led.has _ hA
      have hl := RVs.length h4
      exact ⟨us, us[i]'(by omega), SqL.of h3, by simp [hl, hi]⟩
    · obtain ⟨us, h3, h4⟩ := w.led.has _ hA
      have hl := RVs.length h4
      exact ⟨us, SqL.of h3, by omega⟩
    · obtain ⟨us, h3, h4⟩ := w.led.has _ hA
      obtain ⟨rfl, y⟩ := y
      obtain ⟨d, hd, hdt⟩ := RVs.getV h4 (y us (SqL.of h3))
      refine ⟨Same.refl _, ?_⟩
      rw [List.getD_eq_getElem?_getD, hd]
      exact hdt
theorem pair_new {K : PySem.W.Frag} {H : Hp} {T : Addr} {x y : V} {d e : PyData} (n : H T = none) (h1 : DT K H x d) (h2 : DT K H y e) : DT K (upd H T (.tup [x, y])) (.ref T) (.tuple [d, e]) := DT.new (.cons h1 (.cons h2 .nil)) n
theorem wi_enum {ta : TA} {R : Nat → (Led → Prop) → (Nat → Vd) → Led → Prop} (h : WA B ta ρ A fun ds A1 => ∃ p xs, ds = [.ref p] ∧ (p, .lst (dats xs)) ∈ A1 ∧ R xs.length (fun A => (p, Cell.lst (dats xs)) ∈ A) (fun i => .dat (.tuple [.int (i : Nat), xs.getD i .none])) A1) : WI B (iEnum B.K ta) ρ A R := fun σ H Rv e w k =>
  h σ H _ e w fun v d A1 H1 w1 t1 r1 q1 => by
    obtain ⟨p, xs, rfl, hp, q⟩ := q1
    cases r1 with
    | cons r rs =>
      cases rs
      obtain rfl := r
      obtain ⟨vs, h1, h2⟩ := w1.led.has _ hp
      refine ⟨p, vs, rfl, SqL.of h1, k _ _ _ _ A1 H1 w1 t1 (fun B2 eK => ⟨fun i A H hi w _ hA => ?_, fun A H w _ hA => ?_, fun i A H x H' hi w _ hA y => ?_⟩) q⟩
      · obtain ⟨us, h3, h4⟩ := w.led.has _ hA
        have hl := (RVs.dts h4).length
        exact ⟨us, us[i]'(by omega), SqL.of h3, by simp [hl, hi]⟩
      · obtain ⟨us, h3, h4⟩ := w.led.has _ hA
        have hl := (RVs.dts h4).length
        exact ⟨us, SqL.of h3, by omega⟩
      · obtain ⟨us, h3, h4⟩ := w.led.has _ hA
        obtain ⟨T, x1, rfl, nT, rfl, y⟩ := y
        obtain ⟨d, hd, hdt⟩ := (RVs.dts h4).getV (y us (SqL.of h3))
        refine ⟨same_new nT, ?_⟩
        rw [List.getD_eq_getElem?_getD, hd]
        exact pair_new nT (.int _) hdt
theorem wi_str {te : TE} {R : Nat → (Led → Prop) → (Nat → Vd) → Led → Prop} (h : WE B te ρ A fun d A1 => ∃ x : Str, d = .str x ∧ R x.cps.size (fun _ => True) (fun i => .str ⟨#[x.cps.getD i 0]⟩) A1) : WI B (iStr te) ρ A R := fun σ H Rv e w k =>
  h σ H _ e w fun v d A1 H1 w1 t1 r1 q1 => by
    obtain ⟨x, rfl, q⟩ := q1
    cases DT.strOf r1
    refine ⟨x, rfl, k _ _ _ _ A1 H1 w1 t1 (fun B2 eK => ⟨fun i A H hi _ _ _ => hi, fun A H _ _ _ => Nat.le_refl _, fun i A H v H' hi _ _ _ y => ?_⟩) q⟩
    obtain ⟨rfl, c, hc, rfl⟩ := y
    refine ⟨Same.refl _, ?_⟩
    have e1 : x.cps.getD i 0 = c := by
      rw [Array.getD_eq_getD_getElem?, hc]
      rfl
    rw [e1]
    exact DT.str _
end
/-! ### comprehensions -/
def wipeR (ρ : Rho) : List Nat → Rho
  | [] => ρ
  | v :: vs => (wipeR ρ vs).set v none
theorem wipe_set {σ : L2.St} {i : Nat} {v : Option V} : ∀ {vs : List Nat}, i ∈ vs → wipe (σ.set i v) vs = wipe σ vs
  | [], h => by cases h
  | j :: vs, h => by
    unfold wipe
    by_cases e : i ∈ vs
    · rw [wipe_set e]
    · have z : i = j := by
        rcases List.mem_cons.mp h with z | z
        · exact z
        · exact absurd z e
      subst z
      refine List.ext_getElem? fun k => ?_
      rw [List.getElem?_set, List.getElem?_set]
      by_cases hk : i = k
      · rw [if_pos hk, if_pos hk, wipe_length, wipe_length, List.length_set]
      · rw [if_neg hk, if_neg hk]
        by_cases hkv : k ∈ vs
        · rw [wipe_in hkv, wipe_in hkv, List.length_set]
        · rw [wipe_out hkv, wipe_out hkv, List.getElem?_set, if_neg hk]
where
  wipe_in {σ : L2.St} {k : Nat} : ∀ {vs : List Nat}, k ∈ vs → (wipe σ vs)[k]? = if k < σ.length then some none else none
    | [], h => by cases h
    | j :: vs, h => by
      unfold wipe
      rw [List.getElem?_set, wipe_length]
      by_cases e : j = k
      · subst e
        rw [if_pos rfl]
        try rfl
      · rw [if_neg e]
        rcases List.mem_cons.mp h with z | z
        · exact absurd z.symm e
        · exact wipe_in z
theorem wipe_wipe {σ : L2.St} : ∀ {vs : List Nat}, wipe (wipe σ vs) vs = wipe σ vs := by
  have key : ∀ (us vs : List Nat) (σ : L2.St), (∀ u ∈ us, u ∈ vs) → wipe (wipe σ us) vs = wipe σ vs := by
    intro us
    induction us with
    | nil => intro vs σ _; rfl
    | cons u us ih =>
      intro vs σ h
      show wipe ((wipe σ us).set u none) vs = _
      rw [wipe_set (h u (by simp)), ih vs σ fun z hz => h z (by simp [hz])]
  intro vs
  exact key vs vs σ fun _ h => h
theorem REnv.unset {K : PySem.W.Frag} {H : Hp} {σ : L2.St} {ρ : Rho} (i : Nat) (e : REnv K H σ ρ) : REnv K H (σ.set i none) (ρ.set i none) := by
  refine ⟨by rw [List.length_set, List.length_set, e.len], fun j u h => ?_⟩
  rw [List.getElem?_set] at h ⊢
  split at h
  · split at h
    · cases h
    · cases h
  · rename_i z
    rw [if_neg z]
    exact e.get j u h
theorem REnv.wipe {K : PySem.W.Frag} {H : Hp} {σ : L2.St} {ρ : Rho} (e : REnv K H σ ρ) : ∀ vs : List Nat, REnv K H (L2.wipe σ vs) (wipeR ρ vs)
  | [] => e
  | v :: vs => (e.wipe vs).unset v
/-- a comprehension's target stores in its own slots alone -/
def Own (g : TG) (vs : List Nat) : Prop := ∀ v σ H (Q Q' : L2.St → Hp → Prop), (∀ σ' H', L2.wipe σ' vs = L2.wipe σ vs → Q σ' H' → Q' σ' H') → g v σ H Q → g v σ H Q'
def OwnS (g : TGs) (vs : List Nat) : Prop := ∀ us σ H (Q Q' : L2.St → Hp → Prop), (∀ σ' H', L2.wipe σ' vs = L2.wipe σ vs → Q σ' H' → Q' σ' H') → g us σ H Q → g us σ H Q'
theorem own_name {i : Nat} {vs : List Nat} (h : i ∈ vs) : Own (gName i) vs := fun v σ H Q Q' k q => k _ _ (wipe_set h) q
theorem own_nil {vs : List Nat} : OwnS gNil vs := fun us σ H Q Q' k q => ⟨q.1, k _ _ rfl q.2⟩
theorem own_cons {g : TG} {gs : TGs} {vs : List Nat} (h1 : Own g vs) (h2 : OwnS gs vs) : OwnS (gCons g gs) vs := fun us σ H Q Q' k ⟨v, r, e, q⟩ => ⟨v, r, e, h1 v σ H _ _ (fun σ1 H1 w1 q1 => h2 r σ1 H1 Q Q' (fun σ2 H2 w2 q2 => k σ2 H2 (w2.trans w1) q2) q1) q⟩
theorem own_tup {K : PySem.W.Frag} {n : Nat} {gs : TGs} {vs : List Nat} (h : OwnS gs vs) : Own (gTup K n gs) vs := fun v σ H Q Q' k ⟨a, xs, e, h1, h2, q⟩ => ⟨a, xs, e, h1, h2, h xs σ H Q Q' k q⟩
section
variable {B : Bd} {ρ : Rho} {A : Led} {Q : Vd → Led → Prop} {wi : TI} {g : TG} {tt : TT} {te : TE} {vs : List Nat}
/-- [te for g in wi if tt]: I by the turn, what is made so far, the ledger -/
theorem we_lc (own : Own g vs) (h : WI B wi ρ A fun n G Y A1 => ∃ I : Nat → List Vd → Led → Prop, n ≤ 1000000 ∧ I 0 [] A1 ∧ (∀ i acc A', i ≤ n → I i acc A' → G A' ∧ acc.length ≤ i) ∧
    (∀ i acc A', i < n → I i acc A' → ∀ H0 X, WG ⟨B.K, H0, X⟩ g (Y i) (wipeR ρ vs) A' fun ρ2 A2 => WT ⟨B.K, H0, X⟩ tt ρ2 A2 fun b A3 => if b = true then WE ⟨B.K, H0, X⟩ te ρ2 A3 fun y A4 => I (i + 1) (acc ++ [y]) A4 else I (i + 1) acc A3) ∧
    ∀ acc A', I n acc A' → ∀ p, Q (.ref p) ((p, .lst acc) :: A')) : WE B (tLc wi g tt te vs) ρ A Q := fun σ H Qv e w k =>
  h σ H _ e w fun J n G Y A1 H1 w1 t1 wk ⟨I, hn, h0, hG, hs, hd⟩ D nD => by
    have hDX : D ∉ B.X := w1.notX nD
    have hD0 : B.H0 D = none := w1.free nD
    refine ⟨fun i m H' => m = n - i ∧ i ≤ n ∧ ∃ acc A', Wd B ((D, .lst acc) :: A') H' ∧ Tk H1 H' ∧ I i acc A', ⟨n, rfl, Nat.zero_le _, [], A1, w1.laid nD ⟨[], upd_same, .nil⟩, tk_new nD, h0⟩, ?_⟩
    rintro i m H' ⟨rfl, hi, acc, A', w', t', q⟩
    obtain ⟨hg, hacc⟩ := hG i acc A' hi q
    have wA : Wd B A' H' := w'.sub (List.sublist_cons_self _ _)
    by_cases hlt : i < n
    · refine .inr ⟨(wk B rfl).goes i A' H' hlt wA t' hg, fun H2 => ∃ acc A', Wd B ((D, .lst acc) :: A') H2 ∧ Tk H1 H2 ∧ I (i + 1) acc A', fun H2 q2 => ⟨n - (i + 1), by omega, rfl, hlt, q2⟩, fun x H2 y => ?_⟩
      obtain ⟨s2, r2⟩ := (wk B rfl).yields i A' H' x H2 hlt wA t' hg y
      obtain ⟨vacc, hv1, hv2⟩ := w'.led.has (D, .lst acc) (by simp)
      -- the new list hidden in what stood ahead
      have hH : ∀ a o, a ∉ B.X → (fun a => if a = D then some (HO.lst vacc) else B.H0 a) a = some o → H2 a = some o := fun a o na ha => by
        dsimp only at ha
        split at ha
        · rename_i z
          subst z
          cases ha
          exact s2 _ _ hv1
        · exact s2 _ _ (w'.fr a o na ha)
      have w2 : Wd ⟨B.K, fun a => if a = D then some (HO.lst vacc) else B.H0 a, B.X⟩ A' H2 := by
        refine ⟨(wA.same s2).led, hH, fun p hp => ?_, (wA.same s2).ex⟩
        have ne : p.1 ≠ D := fun z => (List.nodup_cons.mp w'.led.nd).1 (List.mem_map.mpr ⟨p, hp, z⟩)
        rcases wA.new p hp with z | z
        · exact .inl z
        · right
          show (if p.1 = D then _ else _) = none
          rw [if_neg ne]
          exact z
      have back : ∀ {H3 : Hp} {A3 : Led}, Wd ⟨B.K, fun a => if a = D then some (HO.lst vacc) else B.H0 a, B.X⟩ A3 H3 → Tk H2 H3 → Wd B ((D, .lst acc) :: A3) H3 ∧ H3 D = some (.lst vacc) ∧ RVs B.K H3 vacc acc := fun {H3 A3} w3 t3 => by
        have hD3 : H3 D = some (.lst vacc) := w3.fr D _ hDX (by show (if D = D then _ else _) = _; rw [if_pos rfl])
        have rv : RVs B.K H3 vacc acc := RVs.up hv2 ((tk_same s2).trans t3)
        refine ⟨⟨⟨fun p hp => ?_, ?_⟩, fun a o na ha => ?_, fun p hp => ?_, w3.ex⟩, hD3, rv⟩
        · rcases List.mem_cons.mp hp with rfl | hp
          · exact ⟨vacc, hD3, rv⟩
          · exact w3.led.has p hp
        · refine List.nodup_cons.mpr ⟨fun z => ?_, w3.led.nd⟩
          obtain ⟨p, hp, z⟩ := List.mem_map.mp z
          have z' : p.1 = D := z
          rcases w3.new p hp with q | q
          · rw [z'] at q; exact hDX q
          · have q' : (if p.1 = D then some (HO.lst vacc) else B.H0 p.1) = none := q
            rw [if_pos z'] at q'
            cases q'
        · have ne : a ≠ D := fun z => by rw [z, hD0] at ha; cases ha
          exact w3.fr a o na (by show (if a = D then _ else _) = _; rw [if_neg ne]; exact ha)
        · rcases List.mem_cons.mp hp with rfl | hp
          · exact .inr hD0
          · rcases w3.new p hp with q | q
            · exact .inl q
            · right
              have q' : (if p.1 = D then some (HO.lst vacc) else B.H0 p.1) = none := q
              split at q'
              · cases q'
              · exact q'
      refine own x (L2.wipe σ vs) H2 _ _ (fun σ3 H3 hw q3 => And.intro (hw.trans wipe_wipe) q3) ?_
      refine hs i acc A' hlt q (fun a => if a = D then some (HO.lst vacc) else B.H0 a) B.X x (L2.wipe σ vs) H2 _ r2 ((e.up (t1.trans (t'.trans (tk_same s2)))).wipe vs) w2 fun σ3 H3 ρ3 A3 t3 e3 w3 q3 => ?_
      refine q3 σ3 H3 _ e3 w3 fun b A4 H4 w4 t4 q4 => ?_
      have t14 : Tk H1 H4 := ((t'.trans (tk_same s2)).trans t3).trans t4
      cases b with
      | true =>
        refine q4 σ3 H4 _ (e3.up t4) w4 fun y d A5 H5 w5 t5 r5 q5 => ?_
        obtain ⟨w6, h6, rv6⟩ := back w5 ((t3.trans t4).trans t5)
        refine ⟨vacc, h6, ?_, acc ++ [d], A5, ?_, (t14.trans t5).trans (tk_set h6), q5⟩
        · rw [RVs.length hv2]
          exact smallL (by omega)
        · exact w6.set (k := 0) rfl (c' := .lst (acc ++ [d])) ⟨_, upd_same, RVs.append (RVs.up rv6 (tk_set h6)) (.cons (r5.up (tk_set h6)) .nil)⟩
      | false =>
        obtain ⟨w6, h6, rv6⟩ := back w4 (t3.trans t4)
        exact ⟨acc, A4, w6, t14, q4⟩
    · have z : i = n := by omega
      subst z
      exact .inl ⟨(wk B rfl).stops A' H' wA t' hg, k _ (.ref D) _ H' w' (t1.trans t') rfl (hd acc A' q D)⟩
end
section
variable {B : Bd} {ρ : Rho} {A : Led} {Q : Vd → Led → Prop} {wi : TI} {g : TG} {tt : TT} {te : TE} {vs : List Nat}
/-- .. where nothing but data is made: f i at turn i -/
theorem we_lcP (own : Own g vs) (h : WI B wi ρ A fun n G Y A0 => ∃ f : Nat → Vd, n ≤ 1000000 ∧ G A0 ∧
    (∀ i, i < n → ∀ H0 X, WG ⟨B.K, H0, X⟩ g (Y i) (wipeR ρ vs) A0 fun ρ2 A2 => WE ⟨B.K, H0, X⟩ te ρ2 A2 fun y A4 => y = f i ∧ A4 = A0) ∧
    ∀ p, Q (.ref p) ((p, .lst ((List.range n).map f)) :: A0)) : WE B (tLc wi g tYes te vs) ρ A Q :=
  we_lc own fun σ H Rv e w k => h σ H Rv e w fun J n G Y A0 H1 w1 t1 wk ⟨f, hn, hg, hs, hd⟩ => k J n G Y A0 H1 w1 t1 wk ⟨fun i acc A' => acc = (List.range i).map f ∧ A' = A0, hn, ⟨rfl, rfl⟩, fun i acc A' _ ⟨e2, e3⟩ => ⟨by rw [e3]; exact hg, by rw [e2, List.length_map, List.length_range]; exact Nat.le_refl _⟩, fun i acc A' hi ⟨e2, e3⟩ H0 X => by
    subst e2 e3
    intro v σ2 H2 Qs rv re wd ret
    refine hs i hi H0 X v σ2 H2 Qs rv re wd fun σ3 H3 ρ3 A3 t3 e3 w3 q3 => ret σ3 H3 ρ3 A3 t3 e3 w3 (wt_yes ?_)
    refine we_mono q3 fun y A4 ⟨z1, z2⟩ => ⟨?_, z2⟩
    rw [List.range_succ, List.map_append, z1]
    rfl, fun acc A' ⟨e2, e3⟩ p => by rw [e2, e3]; exact hd p⟩
/-- .. with a test: b i, f i at turn i -/
theorem we_lcF (own : Own g vs) (h : WI B wi ρ A fun n G Y A0 => ∃ (b : Nat → Bool) (f : Nat → Vd), n ≤ 1000000 ∧ G A0 ∧
    (∀ i, i < n → ∀ H0 X, WG ⟨B.K, H0, X⟩ g (Y i) (wipeR ρ vs) A0 fun ρ2 A2 => WT ⟨B.K, H0, X⟩ tt ρ2 A2 fun c A3 => c = b i ∧ A3 = A0 ∧ (c = true → WE ⟨B.K, H0, X⟩ te ρ2 A3 fun y A4 => y = f i ∧ A4 = A0)) ∧
    ∀ p, Q (.ref p) ((p, .lst (((List.range n).filter b).map f)) :: A0)) : WE B (tLc wi g tt te vs) ρ A Q :=
  we_lc own fun σ H Rv e w k => h σ H Rv e w fun J n G Y A0 H1 w1 t1 wk ⟨b, f, hn, hg, hs, hd⟩ => k J n G Y A0 H1 w1 t1 wk ⟨fun i acc A' => acc = ((List.range i).filter b).map f ∧ A' = A0, hn, ⟨rfl, rfl⟩, fun i acc A' _ ⟨e2, e3⟩ => ⟨by rw [e3]; exact hg, by
    rw [e2, List.length_map]
    refine Nat.le_trans (List.length_filter_le _ _) ?_
    rw [List.length_range]
    exact Nat.le_refl _⟩, fun i acc A' hi ⟨e2, e3⟩ H0 X => by
    subst e2 e3
    intro v σ2 H2 Qs rv re wd ret
    refine hs i hi H0 X v σ2 H2 Qs rv re wd fun σ3 H3 ρ3 A3 t3 e3 w3 q3 => ret σ3 H3 ρ3 A3 t3 e3 w3 fun σ4 H4 Qv4 re4 wd4 ret4 => q3 σ4 H4 Qv4 re4 wd4 fun c A5 H5 w5 t5 ⟨z1, z2, z3⟩ => ret4 c A5 H5 w5 t5 ?_
    cases c with
    | true =>
      rw [if_pos rfl]
      refine we_mono (z3 rfl) fun y A4 ⟨y1, y2⟩ => ⟨?_, y2⟩
      rw [List.range_succ, List.filter_append, List.map_append, y1]
      simp [← z1]
    | false =>
      rw [if_neg (by simp)]
      refine ⟨?_, z2⟩
      rw [List.range_succ, List.filter_append, List.map_append]
      simp [← z1], fun acc A' ⟨e2, e3⟩ p => by rw [e2, e3]; exact hd p⟩
end
/-! ### a def's promise over data -/
/-- the arguments, the cells that it may touch; the answer, the cells behind it -/
abbrev Fd := List Vd → Led → (Vd → Led → Prop) → Prop
structure Went (K : PySem.W.Frag) (A : Led) (H : Hp) (A' : Led) (H' : Hp) : Prop where
  led : LedOk K A' H'
  new : ∀ p ∈ A', p.1 ∈ addrs A ∨ H p.1 = none
  fr : ∀ a o, a ∉ addrs A → H a = some o → H' a = some o
  ex : ∀ a, H a ≠ none → H' a ≠ none
def spD (K : PySem.W.Frag) (φ : Fd) : Sp := fun vs H Q _ => ∃ ds A, RVs K H vs ds ∧ LedOk K A H ∧ φ ds A fun d A' => ∀ v H', RV K H' v d → Went K A H A' H' → Q v H'
/-- nothing is touched, data come back -/
def fPure (n : Nat) (pre : List Vd → Prop) (f : List Vd → Vd → Prop) : Fd := fun ds A Q => ds.length = n ∧ A = [] ∧ pre ds ∧ ∀ d, f ds d → Q d []
section
variable {K : PySem.W.Frag} {B : Bd} {A : Led} {Q : Vd → Led → Prop} {φ : Fd}
theorem rs_D {ds : List Vd} (L1 L2 A0 : Led) (eA : A = L1 ++ (A0 ++ L2)) (h : φ ds A0 fun d A' => Q d (L1 ++ (A' ++ L2))) (mono : ∀ Q Q' : Vd → Led → Prop, (∀ d A', Q d A' → Q' d A') → φ ds A0 Q → φ ds A0 Q') : RS B (spD B.K φ) ds A Q := fun vs H Qv E rv w k => by
  subst eA
  have sub : A0.Sublist (L1 ++ (A0 ++ L2)) := (List.sublist_append_left _ _).trans (List.sublist_append_right _ _)
  refine ⟨ds, A0, rv, (w.sub sub).led, mono _ _ (fun d A' q v H' rv' wt => ?_) h⟩
  have tk : Tk H H' := tk_but_led (w.sub sub).led wt.fr
  have nd := w.led.nd
  unfold addrs at nd
  rw [List.map_append, List.map_append] at nd
  have hout : ∀ p, p ∈ L1 ∨ p ∈ L2 → p.1 ∉ addrs A0 := fun p hp z => by
    obtain ⟨q, hq, e⟩ := List.mem_map.mp z
    rcases hp with hp | hp
    · exact (List.nodup_append.mp nd).2.2 p.1 (List.mem_map_of_mem hp) p.1 (List.mem_append_left _ (e ▸ List.mem_map_of_mem hq)) rfl
    · exact (List.nodup_append.mp (List.nodup_append.mp nd).2.1).2.2 q.1 (List.mem_map_of_mem hq) p.1 (List.mem_map_of_mem hp) e
  have hold : ∀ p, p ∈ L1 ∨ p ∈ L2 → HasC B.K H p.1 p.2 := fun p hp => w.led.has p (by
    rcases hp with hp | hp
    · exact List.mem_append_left _ hp
    · exact List.mem_append_right _ (List.mem_append_right _ hp))
  have keepL : ∀ p, p ∈ L1 ∨ p ∈ L2 → HasC B.K H' p.1 p.2 := fun p hp => (hold p hp).up tk fun o ho => wt.fr _ _ (hout p hp) ho
  have apart : ∀ p, p ∈ L1 ∨ p ∈ L2 → p.1 ∉ addrs A' := fun p hp z => by
    obtain ⟨q, hq, e⟩ := List.mem_map.mp z
    have e' : q.1 = p.1 := e
    rcases wt.new q hq with z | z
    · rw [e'] at z; exact hout p hp z
    · obtain ⟨o, ho, _⟩ := (hold p hp).some
      rw [e', ho] at z
      cases z
  refine k v d _ H' ⟨⟨fun p hp => ?_, ?_⟩, fun a o na ha => ?_, fun p hp => ?_, fun a ha => wt.ex a (w.ex a ha)⟩ tk rv' q
  · rcases List.mem_append.mp hp with hp | hp
    · exact keepL p (.inl hp)
    · rcases List.mem_append.mp hp with hp | hp
      · exact wt.led.has p hp
      · exact keepL p (.inr hp)
  · unfold addrs
    rw [List.map_append, List.map_append]
    have n1 := List.nodup_append.mp nd
    have n2 := List.nodup_append.mp n1.2.1
    refine List.nodup_append.mpr ⟨n1.1, List.nodup_append.mpr ⟨wt.led.nd, n2.2.1, fun a ha b hb z => ?_⟩, fun a ha b hb z => ?_⟩
    · obtain ⟨p, hp, rfl⟩ := List.mem_map.mp hb
      exact apart p (.inr hp) (z ▸ ha)
    · subst z
      obtain ⟨p, hp, rfl⟩ := List.mem_map.mp ha
      rcases List.mem_append.mp hb with hb | hb
      · exact apart p (.inl hp) hb
      · exact n1.2.2 p.1 (List.mem_map_of_mem hp) p.1 (List.mem_append_right _ hb) rfl
  · have h1 := w.fr a o na ha
    refine wt.fr a o (fun z => ?_) h1
    obtain ⟨q, hq, e⟩ := List.mem_map.mp z
    have e' : q.1 = a := e
    rcases w.new q (sub.subset hq) with y | y
    · rw [e'] at y; exact na y
    · rw [e', ha] at y; cases y
  · have old : ∀ q, q ∈ L1 ++ (A0 ++ L2) → q.1 ∈ B.X ∨ B.H0 q.1 = none := w.new
    rcases List.mem_append.mp hp with hp | hp
    · exact old p (List.mem_append_left _ hp)
    · rcases List.mem_append.mp hp with hp | hp
      · rcases wt.new p hp with z | z
        · obtain ⟨q, hq, e⟩ := List.mem_map.mp z
          have e' : q.1 = p.1 := e
          rw [← e']
          exact old q (List.mem_append_right _ (List.mem_append_left _ hq))
        · exact .inr (w.free z)
      · exact old p (List.mem_append_right _ (List.mem_append_right _ hp))
theorem rs_pure {ds : List Vd} {n : Nat} {pre : List Vd → Prop} {f : List Vd → Vd → Prop} (hn : ds.length = n) (hp : pre ds) (h : ∀ d, f ds d → Q d A) : RS B (spD B.K (fPure n pre f)) ds A Q :=
  rs_D [] A [] rfl ⟨hn, rfl, hp, h⟩ (fun Q Q' k ⟨h1, h2, h3, h4⟩ => ⟨h1, h2, h3, fun d hd => k _ _ (h4 d hd)⟩)
/-- the slots at a def's entry -/
def startD (N : List Str) (ds : List Vd) : Rho := ds.map some ++ List.replicate (N.length - ds.length) none
theorem start_ok {H : Hp} {vs : List V} {ds : List Vd} {N : List Str} (r : RVs K H vs ds) : REnv K H (L2.start N vs) (startD N ds) := by
  refine ⟨by simp [L2.start, startD, RVs.length r], fun i d h => ?_⟩
  unfold L2.start
  unfold startD at h
  by_cases hi : i < ds.length
  · rw [List.getElem?_append_left (by rw [List.length_map]; exact hi), List.getElem?_map] at h
    cases hd : ds[i]? with
    | none => rw [hd] at h; cases h
    | some d' =>
      rw [hd] at h
      cases h
      obtain ⟨v, h1, h2⟩ := RVs.get r hd
      refine ⟨v, ?_, h2⟩
      rw [List.getElem?_append_left (by rw [List.length_map, RVs.length r]; exact hi), List.getElem?_map, h1]
      rfl
  · rw [List.getElem?_append_right (by rw [List.length_map]; omega), List.getElem?_replicate] at h
    split at h <;> cases h
theorem body_D {t : TS} {vs : List V} {H : Hp} {Qv : VK} {E : XK} {N : List Str} (h : spD K φ vs H Qv E)
    (body : ∀ H0 ds A (Q : Vd → Led → Prop), φ ds A Q → WS ⟨K, H0, addrs A⟩ t (startD N ds) A { nx := fun _ A' => ∃ A'', A''.Sublist A' ∧ Q (.dat .none) A'', rt := fun d A' => ∃ A'', A''.Sublist A' ∧ Q d A'' }) : t { nx := fun _ H' => Qv .non H', rt := Qv } (L2.start N vs) H := by
  obtain ⟨ds, A, rv, led, hφ⟩ := h
  have w0 : Wd ⟨K, H, addrs A⟩ A H := ⟨led, fun a o _ h => h, fun p hp => .inl (List.mem_map_of_mem hp), fun a ha => by
    obtain ⟨p, hp, e⟩ := List.mem_map.mp ha
    obtain ⟨o, ho, _⟩ := (led.has p hp).some
    have e' : p.1 = a := e
    rw [← e', ho]
    exact fun q => nomatch q⟩
  have wt : ∀ {A' A'' : Led} {H' : Hp}, Wd ⟨K, H, addrs A⟩ A' H' → A''.Sublist A' → Went K A H A'' H' := fun {A' A'' H'} w s => ⟨(w.sub s).led, (w.sub s).new, w.fr, fun a ha => by
    by_cases z : a ∈ addrs A
    · exact w.ex a z
    · cases e : H a with
      | none => exact absurd e ha
      | some o => rw [w.fr a o z e]; exact fun q => nomatch q⟩
  refine body H ds A _ hφ (L2.start N vs) H _ (start_ok rv) w0 ⟨fun σ' H' ρ' A' _ _ w' ⟨A'', s, q⟩ => q _ H' DT.non (wt w' s), fun v d A' H' w' _ rv' ⟨A'', s, q⟩ => q v H' rv' (wt w' s), fun _ _ _ _ _ _ _ z => z.elim, fun _ _ _ _ _ _ _ z => z.elim⟩
end
/-! ### slices, built-ins, methods -/
def WO (B : Bd) (te : TO) (ρ : Rho) (A : Led) (Q : Option Int → Led → Prop) : Prop := ∀ σ H (Qv : Option Int → Hp → Prop), REnv B.K H σ ρ → Wd B A H → (∀ b A' H', Wd B A' H' → Tk H H' → Q b A' → Qv b H') → te σ H Qv
def RSl (B : Bd) (r : V → Option Int → Option Int → Hp → VK → Prop) (x : Vd) (lo hi : Option Int) (A : Led) (Q : Vd → Led → Prop) : Prop := ∀ v H Qv, RV B.K H v x → Wd B A H → Ret B H Q Qv → r v lo hi H Qv
def cutL {α : Type} (xs : List α) (lo hi : Option Int) : List α := (xs.drop (HT.sIx xs.length 0 lo)).take (HT.sIx xs.length xs.length hi - HT.sIx xs.length 0 lo)
section
variable {B : Bd} {ρ : Rho} {A : Led} {Q : Vd → Led → Prop} {ta tb : TE}
theorem wo_none {Q : Option Int → Led → Prop} (k : Q none A) : WO B tNoPart ρ A Q := fun σ H Qv e w c => c none A H w (Tk.refl H) k
theorem wo_some {Q : Option Int → Led → Prop} (h : WE B ta ρ A fun d A1 => ∃ i, d = .int i ∧ Q (some i) A1) : WO B (tPart ta) ρ A Q := fun σ H Qv e w c =>
  h σ H _ e w fun v d A1 H1 w1 t1 r1 q1 => by
    obtain ⟨i, rfl, q⟩ := q1
    exact ⟨i, DT.intOf r1, c _ A1 H1 w1 t1 q⟩
theorem we_sl {r : V → Option Int → Option Int → Hp → VK → Prop} {tl th : TO} (h : WE B ta ρ A fun x A1 => WO B tl ρ A1 fun l A2 => WO B th ρ A2 fun u A3 => RSl B r x l u A3 Q) : WE B (tSl r ta tl th) ρ A Q := fun σ H Qv e w c =>
  h σ H _ e w fun v d A1 H1 w1 t1 r1 q1 => q1 σ H1 _ (e.up t1) w1 fun l A2 H2 w2 t2 q2 => q2 σ H2 _ (e.up (t1.trans t2)) w2 fun u A3 H3 w3 t3 q3 => q3 v H3 Qv (r1.up (t2.trans t3)) w3 (c.on (t1.trans (t2.trans t3)))
theorem rsl_tup {ds : List PyData} {lo hi : Option Int} (k : Q (.dat (.tuple (cutD ds lo hi))) A) : RSl B (rSlA B.K) (.dat (.tuple ds)) lo hi A Q := fun v H Qv rv w c =>
  r_slA rv fun v' H' s' d' => c _ (.dat _) A H' (w.same s') (tk_same s') d' k
theorem rsl_list {n : Nat} {p : Addr} {xs : List Vd} {lo hi : Option Int} (hn : A[n]? = some (p, .lst xs)) (k : ∀ l, Q (.ref l) ((l, .lst (cutL xs lo hi)) :: A)) : RSl B (rSlL B.K) (.ref p) lo hi A Q := fun v H Qv rv w c => by
  obtain rfl : v = .ref p := rv
  obtain ⟨vs, h1, h2⟩ := w.at hn
  refine ⟨p, vs, rfl, SqL.of h1, fun l nl => c _ (.ref l) _ _ (w.laid nl (c := .lst (cutL xs lo hi)) ⟨_, upd_same, ?_⟩) (tk_new nl) rfl (k l)⟩
  unfold cutV cutL
  rw [RVs.length h2]
  exact RVs.take _ (RVs.drop _ (RVs.up h2 (tk_new nl)))
theorem rsl_str {x : Str} {lo hi : Option Int} (hl : x.length ≤ sizeLine) (k : Q (.str (cutS x lo hi)) A) : RSl B rSlS (.dat (.str x)) lo hi A Q := fun v H Qv rv w c => by
  cases DT.strOf rv
  exact ⟨x, rfl, hl, c _ (.str _) A H w (Tk.refl H) (DT.str _) k⟩
theorem RVs.one {K : PySem.W.Frag} {H : Hp} {vs : List V} {d : Vd} (h : RVs K H vs [d]) : ∃ v, vs = [v] ∧ RV K H v d := by
  cases h with
  | cons a b => cases b; exact ⟨_, rfl, a⟩
theorem RVs.two {K : PySem.W.Frag} {H : Hp} {vs : List V} {d e : Vd} (h : RVs K H vs [d, e]) : ∃ v u, vs = [v, u] ∧ RV K H v d ∧ RV K H u e := by
  cases h with
  | cons a b => obtain ⟨u, rfl, q⟩ := RVs.one b; exact ⟨_, u, rfl, a, q⟩
theorem rl_lenT {ds : List PyData} (k : Q (.int (ds.length : Int)) A) : RL B (fun xs H Q => ∃ p ys, xs = [.ref p] ∧ (SqL B.K H p ys ∨ SqT B.K H p ys) ∧ Q (.int ys.length) H) [.dat (.tuple ds)] A Q := fun vs H Qv rv w c => by
  obtain ⟨v, rfl, r⟩ := RVs.one rv
  obtain ⟨a, xs, rfl, hs, hx⟩ := DT.tupOf r
  refine ⟨a, xs, rfl, .inr hs, ?_⟩
  rw [hx.length]
  exact c _ (.int _) A H w (Tk.refl H) (DT.int _) k
theorem rl_lenL {n : Nat} {p : Addr} {xs : List Vd} (hn : A[n]? = some (p, .lst xs)) (k : Q (.int (xs.length : Int)) A) : RL B (fun xs H Q => ∃ p ys, xs = [.ref p] ∧ (SqL B.K H p ys ∨ SqT B.K H p ys) ∧ Q (.int ys.length) H) [.ref p] A Q := fun vs H Qv rv w c => by
  obtain ⟨v, rfl, r⟩ := RVs.one rv
  obtain rfl : v = .ref p := r
  obtain ⟨us, h1, h2⟩ := w.at hn
  refine ⟨p, us, rfl, .inl (SqL.of h1), ?_⟩
  rw [RVs.length h2]
  exact c _ (.int _) A H w (Tk.refl H) (DT.int _) k
theorem rl_abs {i : Int} (k : Q (.int (if i < 0 then -i else i)) A) : RL B (fun xs H Q => ∃ i, xs = [.int i] ∧ Q (.int (if i < 0 then -i else i)) H) [.dat (.int i)] A Q := fun vs H Qv rv w c => by
  obtain ⟨v, rfl, r⟩ := RVs.one rv
  cases DT.intOf r
  exact ⟨i, rfl, c _ (.int _) A H w (Tk.refl H) (DT.int _) k⟩
theorem rl_2 {f : Int → Int → Int} {i j : Int} (k : Q (.int (f i j)) A) : RL B (fun xs H Q => ∃ i j, xs = [.int i, .int j] ∧ Q (.int (f i j)) H) [.dat (.int i), .dat (.int j)] A Q := fun vs H Qv rv w c => by
  obtain ⟨v, u, rfl, r1, r2⟩ := RVs.two rv
  cases DT.intOf r1
  cases DT.intOf r2
  exact ⟨i, j, rfl, c _ (.int _) A H w (Tk.refl H) (DT.int _) k⟩
theorem rl_inti {i : Int} (k : Q (.int i) A) : RL B (fun xs H Q => (∃ i, xs = [.int i] ∧ Q (.int i) H) ∨ ∃ k, xs = [.bl k] ∧ Q (.int (if k then 1 else 0)) H) [.dat (.int i)] A Q := fun vs H Qv rv w c => by
  obtain ⟨v, rfl, r⟩ := RVs.one rv
  cases DT.intOf r
  exact .inl ⟨i, rfl, c _ (.int _) A H w (Tk.refl H) (DT.int _) k⟩
theorem rl_intb {b : Bool} (k : Q (.int (if b then 1 else 0)) A) : RL B (fun xs H Q => (∃ i, xs = [.int i] ∧ Q (.int i) H) ∨ ∃ k, xs = [.bl k] ∧ Q (.int (if k then 1 else 0)) H) [.dat (.bool b)] A Q := fun vs H Qv rv w c => by
  obtain ⟨v, rfl, r⟩ := RVs.one rv
  cases DT.blOf r
  exact .inr ⟨b, rfl, c _ (.int _) A H w (Tk.refl H) (DT.int _) k⟩
theorem rl_str {i : Int} (h : i.natAbs.log2 < 1920) (k : Q (.str (toString i)) A) : RL B (fun xs H Q => ∃ i, xs = [.int i] ∧ i.natAbs.log2 < 1920 ∧ Q (.str (toString i)) H) [.dat (.int i)] A Q := fun vs H Qv rv w c => by
  obtain ⟨v, rfl, r⟩ := RVs.one rv
  cases DT.intOf r
  exact ⟨i, rfl, h, c _ (.str _) A H w (Tk.refl H) (DT.str _) k⟩
theorem rl_tupL {n : Nat} {p : Addr} {ds : List PyData} (hn : A[n]? = some (p, .lst (dats ds))) (k : Q (.dat (.tuple ds)) A) : RL B (fun xs H Q => ∃ p ys, xs = [.ref p] ∧ ((SqL B.K H p ys ∧ ∀ l, H l = none → Q (.ref l) (upd H l (.tup ys))) ∨ (SqT B.K H p ys ∧ Q (.ref p) H))) [.ref p] A Q := fun vs H Qv rv w c => by
  obtain ⟨v, rfl, r⟩ := RVs.one rv
  obtain rfl : v = .ref p := r
  obtain ⟨us, h1, h2⟩ := w.at hn
  exact ⟨p, us, rfl, .inl ⟨SqL.of h1, fun l nl => c _ (.dat _) A _ (w.same (same_new nl)) (tk_new nl) (DT.new (RVs.dts h2) nl) k⟩⟩
theorem rl_tupT {ds : List PyData} (k : Q (.dat (.tuple ds)) A) : RL B (fun xs H Q => ∃ p ys, xs = [.ref p] ∧ ((SqL B.K H p ys ∧ ∀ l, H l = none → Q (.ref l) (upd H l (.tup ys))) ∨ (SqT B.K H p ys ∧ Q (.ref p) H))) [.dat (.tuple ds)] A Q := fun vs H Qv rv w c => by
  obtain ⟨v, rfl, r⟩ := RVs.one rv
  obtain ⟨a, xs, rfl, hs, hx⟩ := DT.tupOf r
  exact ⟨a, xs, rfl, .inr ⟨hs, c _ (.dat _) A H w (Tk.refl H) r k⟩⟩
theorem rl_listL {n : Nat} {p : Addr} {xs : List Vd} (hn : A[n]? = some (p, .lst xs)) (k : ∀ l, Q (.ref l) ((l, .lst xs) :: A)) : RL B (fun xs H Q => ∃ p ys, xs = [.ref p] ∧ (SqL B.K H p ys ∨ SqT B.K H p ys) ∧ ∀ l, H l = none → Q (.ref l) (upd H l (.lst ys))) [.ref p] A Q := fun vs H Qv rv w c => by
  obtain ⟨v, rfl, r⟩ := RVs.one rv
  obtain rfl : v = .ref p := r
  obtain ⟨us, h1, h2⟩ := w.at hn
  exact ⟨p, us, rfl, .inl (SqL.of h1), fun l nl => c _ (.ref l) _ _ (w.laid nl (c := .lst xs) ⟨_, upd_same, RVs.up h2 (tk_new nl)⟩) (tk_new nl) rfl (k l)⟩
theorem rl_listT {ds : List PyData} (k : ∀ l, Q (.ref l) ((l, .lst (dats ds)) :: A)) : RL B (fun xs H Q => ∃ p ys, xs = [.ref p] ∧ (SqL B.K H p ys ∨ SqT B.K H p ys) ∧ ∀ l, H l = none → Q (.ref l) (upd H l (.lst ys))) [.dat (.tuple ds)] A Q := fun vs H Qv rv w c => by
  obtain ⟨v, rfl, r⟩ := RVs.one rv
  obtain ⟨a, xs, rfl, hs, hx⟩ := DT.tupOf r
  exact ⟨a, xs, rfl, .inr hs, fun l nl => c _ (.ref l) _ _ (w.laid nl (c := .lst (dats ds)) ⟨_, upd_same, (hx.up (tk_new nl)).rvs⟩) (tk_new nl) rfl (k l)⟩
theorem bools_of {K : PySem.W.Frag} {H : Hp} : ∀ {bs : List Bool} {vs : List V}, RVs K H vs (bs.map fun b => Vd.bl b) → vs = bs.map V.bl
  | [], vs, h => by cases h; rfl
  | b :: bs, vs, h => by
    cases h with
    | cons r t => cases DT.blOf r; rw [bools_of t]; rfl
theorem ints_of {K : PySem.W.Frag} {H : Hp} : ∀ {bs : List Int} {vs : List V}, RVs K H vs (bs.map fun b => Vd.int b) → vs = bs.map V.int
  | [], vs, h => by cases h; rfl
  | b :: bs, vs, h => by
    cases h with
    | cons r t => cases DT.intOf r; rw [ints_of t]; rfl
theorem rl_all {n : Nat} {p : Addr} {bs : List Bool} (hn : A[n]? = some (p, .lst (bs.map fun b => Vd.bl b))) (k : Q (.bl (bs.all id)) A) : RL B (rAll B.K) [.ref p] A Q := fun vs H Qv rv w c => by
  obtain ⟨v, rfl, r⟩ := RVs.one rv
  obtain rfl : v = .ref p := r
  obtain ⟨us, h1, h2⟩ := w.at hn
  cases bools_of h2
  exact ⟨p, bs, rfl, SqL.of h1, c _ (.bl _) A H w (Tk.refl H) (DT.bl _) k⟩
theorem rl_any {n : Nat} {p : Addr} {bs : List Bool} (hn : A[n]? = some (p, .lst (bs.map fun b => Vd.bl b))) (k : Q (.bl (bs.any id)) A) : RL B (rAny B.K) [.ref p] A Q := fun vs H Qv rv w c => by
  obtain ⟨v, rfl, r⟩ := RVs.one rv
  obtain rfl : v = .ref p := r
  obtain ⟨us, h1, h2⟩ := w.at hn
  cases bools_of h2
  exact ⟨p, bs, rfl, SqL.of h1, c _ (.bl _) A H w (Tk.refl H) (DT.bl _) k⟩
theorem rl_sum {n : Nat} {p : Addr} {ns : List Int} (hn : A[n]? = some (p, .lst (ns.map fun b => Vd.int b))) (k : Q (.int ns.sum) A) : RL B (rSum B.K) [.ref p] A Q := fun vs H Qv rv w c => by
  obtain ⟨v, rfl, r⟩ := RVs.one rv
  obtain rfl : v = .ref p := r
  obtain ⟨us, h1, h2⟩ := w.at hn
  cases ints_of h2
  exact ⟨p, ns, rfl, SqL.of h1, c _ (.int _) A H w (Tk.refl H) (DT.int _) k⟩
def isNon : PyData → Bool
  | .none => true
  | _ => false
theorem DT.isNon {K : PySem.W.Frag} {H : Hp} {v : V} {d : PyData} (h : DT K H v d) : decide (v = .non) = OR.isNon d := by
  cases h <;> simp [OR.isNon]
theorem rw_isN {d : PyData} (k : Q (.bl (isNon d)) A) : RW B (fun x y H Q => y = .non ∧ Q (.bl (decide (x = .non))) H) (.dat d) (.dat .none) A Q := fun v u H Qv rv ru w c => by
  refine ⟨by cases (ru : DT _ _ _ _); rfl, ?_⟩
  rw [DT.isNon rv]
  exact c _ (.bl _) A H w (Tk.refl H) (DT.bl _) k
theorem rw_notN {d : PyData} (k : Q (.bl (!isNon d)) A) : RW B (fun x y H Q => y = .non ∧ Q (.bl (!decide (x = .non))) H) (.dat d) (.dat .none) A Q := fun v u H Qv rv ru w c => by
  refine ⟨by cases (ru : DT _ _ _ _); rfl, ?_⟩
  rw [DT.isNon rv]
  exact c _ (.bl _) A H w (Tk.refl H) (DT.bl _) k
/-- xs.append(y) -/
theorem we_append {t : TA} (h : WE B ta ρ A fun o A1 => ∃ (n : Nat) (p : Addr) (xs : List Vd), o = .ref p ∧ A1[n]? = some (p, Cell.lst xs) ∧ WA B t ρ A1 fun ds A2 => ∃ (m : Nat) (xs' : List Vd) (y : Vd), ds = [y] ∧ A2[m]? = some (p, .lst xs') ∧ xs'.length < 1000000 ∧ Q (.dat .none) (A2.set m (p, .lst (xs' ++ [y])))) : WE B (tBM B.K "list" rAppend ta t) ρ A Q := fun σ H Qv e w c =>
  h σ H _ e w fun v d A1 H1 w1 t1 r1 q1 => by
    obtain ⟨n, p, xs, rfl, hn, q⟩ := q1
    obtain rfl : v = .ref p := r1
    obtain ⟨us, h1, h2⟩ := w1.at hn
    refine ⟨.inl ⟨rfl, _, SqL.of h1⟩, q σ H1 _ (e.up t1) w1 fun vs ds A2 H2 w2 t2 r2 q2 => ?_⟩
    obtain ⟨m, xs', y, rfl, hm, hl, q⟩ := q2
    obtain ⟨u, rfl, ru⟩ := RVs.one r2
    obtain ⟨ws, h3, h4⟩ := w2.at hm
    have tk := tk_set (o := HO.lst (ws ++ [u])) h3
    refine ⟨p, ws, u, rfl, rfl, h3, by rw [RVs.length h4]; exact smallL (Nat.le_of_lt hl), c _ (.dat .none) _ _ (w2.set hm (c' := .lst (xs' ++ [y])) ⟨_, upd_same, RVs.append (RVs.up h4 tk) (.cons (ru.up tk) .nil)⟩) ((t1.trans t2).trans tk) DT.non q⟩
/-! the law's draws -/
theorem rs_take {n : Nat} {b : Addr} {m : Int} (hn : A[n]? = some (b, .box)) (h0 : 0 < m) (h1 : m < 2 ^ 64) (k : ∀ r, 0 ≤ r → r < m → Q (.int r) A) : RS B spTake [.ref b, .dat (.int m)] A Q := fun vs H Qv E rv w c => by
  obtain ⟨v, u, rfl, r1, r2⟩ := RVs.two rv
  obtain rfl : v = .ref b := r1
  cases DT.intOf r2
  refine ⟨b, m, rfl, w.at hn, h0, h1, fun r H' a0 a1 bt bx => ?_⟩
  obtain ⟨i, s, z, hb⟩ := w.at hn
  obtain ⟨i', s', z', hb'⟩ := bx
  have tk : Tk H H' := tk_but hb bt
  refine c _ (.int r) A H' ?_ tk (DT.int r) (k r a0 a1)
  have nb := w.new _ (List.mem_of_getElem? hn)
  refine ⟨⟨fun p hp => ?_, w.led.nd⟩, fun a o na ha => ?_, w.new, fun a ha => ?_⟩
  · obtain ⟨j, hj⟩ := List.mem_iff_getElem?.mp hp
    by_cases e : p.1 = b
    · have : j = n := nodup_ix w.led.nd (a := b) (by unfold addrs; rw [List.getElem?_map, hj, ← e]; rfl) (by unfold addrs; rw [List.getElem?_map, hn]; rfl)
      subst this
      rw [hn] at hj
      cases hj
      exact ⟨i', s', z', hb'⟩
    · exact (w.led.has p hp).up tk fun o ho => bt _ _ e ho
  · have ne : a ≠ b := fun z => by
      subst z
      rcases nb with z | z
      · exact na z
      · rw [ha] at z; cases z
    exact bt _ _ ne (w.fr a o na ha)
  · by_cases e : a = b
    · rw [e, hb']; exact fun q => nomatch q
    · cases z : H a with
      | none => exact absurd z (w.ex a ha)
      | some o => rw [bt _ _ e z]; exact fun q => nomatch q
end
section
variable {B : Bd} {A : Led} {Q : Vd → Led → Prop}
theorem RVs.three {K : PySem.W.Frag} {H : Hp} {vs : List V} {d e f : Vd} (h : RVs K H vs [d, e, f]) : ∃ v u x, vs = [v, u, x] ∧ RV K H v d ∧ RV K H u e ∧ RV K H x f := by
  cases h with
  | cons a b => obtain ⟨u, x, rfl, q1, q2⟩ := RVs.two b; exact ⟨_, u, x, rfl, a, q1, q2⟩
theorem rs_turn {w : Int} {s : Sh} (k : Q (.int (tn w s)) A) : RS B spTurn [.dat (.int w), .dat (.str s.str)] A Q := fun vs H Qv E rv wd c => by
  obtain ⟨v, u, rfl, r1, r2⟩ := RVs.two rv
  cases DT.intOf r1
  cases DT.strOf r2
  exact ⟨w, s, rfl, fun H' s' => c _ (.int _) A H' (wd.same s') (tk_same s') (DT.int _) k⟩
theorem rs_back {w : Int} {s : Sh} (k : Q (.int (tb w s)) A) : RS B spBack [.dat (.int w), .dat (.str s.str)] A Q := fun vs H Qv E rv wd c => by
  obtain ⟨v, u, rfl, r1, r2⟩ := RVs.two rv
  cases DT.intOf r1
  cases DT.strOf r2
  exact ⟨w, s, rfl, fun H' s' => c _ (.int _) A H' (wd.same s') (tk_same s') (DT.int _) k⟩
theorem rs_about {w : Int} (k : Q (.int ((w + 2) % 4)) A) : RS B spAbout [.dat (.int w)] A Q := fun vs H Qv E rv wd c => by
  obtain ⟨v, rfl, r1⟩ := RVs.one rv
  cases DT.intOf r1
  exact ⟨w, rfl, c _ (.int _) A H wd (Tk.refl H) (DT.int _) k⟩
theorem rs_onward {p : Int × Int} {w n : Int} (w0 : 0 ≤ w) (w3 : w ≤ 3) (k : Q (.dat (sq (p.1 + dx w * n, p.2 + dy w * n))) A) : RS B (spOnward B.K) [.dat (sq p), .dat (.int w), .dat (.int n)] A Q := fun vs H Qv E rv wd c => by
  obtain ⟨v, u, x, rfl, r1, r2, r3⟩ := RVs.three rv
  cases DT.intOf r2
  cases DT.intOf r3
  exact ⟨v, p, w, n, rfl, r1, w0, w3, fun v' H' s' d' => c _ (.dat _) A H' (wd.same s') (tk_same s') d' k⟩
theorem rs_onward1 {p : Int × Int} {w : Int} (w0 : 0 ≤ w) (w3 : w ≤ 3) (k : Q (.dat (sq (on p w))) A) : RS B (spOnward B.K) [.dat (sq p), .dat (.int w), .dat (.int 1)] A Q := rs_onward w0 w3 (by rw [on_one]; exact k)
theorem rs_on {p : Int × Int} {w : Int} (w0 : 0 ≤ w) (w3 : w ≤ 3) (k : Q (.dat (sq (on p w))) A) : RS B (spOn B.K) [.dat (sq p), .dat (.int w)] A Q := fun vs H Qv E rv wd c => by
  obtain ⟨v, u, rfl, r1, r2⟩ := RVs.two rv
  cases DT.intOf r2
  exact ⟨v, p, w, rfl, r1, w0, w3, fun v' H' s' d' => c _ (.dat _) A H' (wd.same s') (tk_same s') d' k⟩
/-- an index of a list made by a function -/
theorem atI_nat' {α : Type} {xs : List α} {n : Nat} {a : α} (h : xs[n]? = some a) : atI xs (n : Int) = some a := atI_nat h
/-! ### the road, place by place -/
def rdS (x y w : Int) (sh : Nat → Sh) : Nat → (Int × Int) × Int
  | 0 => ((x, y), w)
  | i + 1 => (on (rdS x y w sh i).1 (tn (rdS x y w sh i).2 (sh i)), tn (rdS x y w sh i).2 (sh i))
def shOfR (rs : List (Sh × Int)) (i : Nat) : Sh := (rs.getD (i % rs.length) (.s, 0)).1
def rd (x y w : Int) (rs : List (Sh × Int)) : Nat → (Int × Int) × Int := rdS x y w (shOfR rs)
def pdat (q : (Int × Int) × Int) : PyData := .tuple [sq q.1, .int q.2]
theorem rd_zero (x y w : Int) (rs : List (Sh × Int)) : rd x y w rs 0 = ((x, y), w) := rfl
theorem rd_succ (x y w : Int) (rs : List (Sh × Int)) (i : Nat) : rd x y w rs (i + 1) = (on (rd x y w rs i).1 (tn (rd x y w rs i).2 (shOfR rs i)), tn (rd x y w rs i).2 (shOfR rs i)) := rfl
theorem wst_rd (x y w : Int) (rs : List (Sh × Int)) : ∀ i, i ≤ rs.length → wst x y w (rs.take i) = ((List.range (i + 1)).map fun k => (rd x y w rs k).1, (rd x y w rs i).2)
  | 0, _ => rfl
  | i + 1, h => by
    have hr : rs[i]? = some (rs[i]'(by omega)) := by simp [show i < rs.length by omega]
    have es : shOfR rs i = (rs[i]'(by omega)).1 := by
      unfold shOfR
      rw [Nat.mod_eq_of_lt (by omega), List.getD_eq_getElem?_getD, hr]
      rfl
    rw [wst_take hr, wst_rd x y w rs i (by omega), List.range_succ (n := i + 1), List.map_append]
    dsimp only
    rw [List.range_succ, List.map_append, List.map_cons, List.map_nil, getLastD_snoc, ← es]
    rfl
theorem wst_all (x y w : Int) (rs : List (Sh × Int)) : wst x y w rs = ((List.range (rs.length + 1)).map fun k => (rd x y w rs k).1, (rd x y w rs rs.length).2) := by
  have h := wst_rd x y w rs rs.length (Nat.le_refl _)
  rw [List.take_length] at h
  exact h
theorem wst_drop (x y w : Int) (rs : List (Sh × Int)) : (wst x y w rs).1.dropLast = (List.range rs.length).map fun k => (rd x y w rs k).1 := by
  rw [wst_all, List.range_succ, List.map_append]
  exact List.dropLast_concat
theorem wst_lastD (x y w : Int) (rs : List (Sh × Int)) : (wst x y w rs).1.getLastD (0, 0) = (rd x y w rs rs.length).1 := by
  rw [wst_all, List.range_succ, List.map_append]
  exact getLastD_snoc _ _ _
theorem rail_ix {rs : List (Sh × Int)} (ne : rs ≠ []) (i : Nat) : atI (rs.map rail) ((0 + (i : Int)) % ((rs.map rail).length : Int)) = some (.tuple [.str (shOfR rs i).str, .int (rs.getD (i % rs.length) (.s, 0)).2]) := by
  have hl : 0 < rs.length := List.length_pos_iff.mpr ne
  have e : (0 + (i : Int)) % ((rs.map rail).length : Int) = ((i % rs.length : Nat) : Int) := by
    rw [List.length_map, Int.zero_add]
    omega
  rw [e]
  refine atI_nat ?_
  have hm : i % rs.length < rs.length := Nat.mod_lt _ hl
  rw [List.getElem?_map]
  have hr : rs[i % rs.length]? = some (rs[i % rs.length]) := by simp [hm]
  rw [hr]
  unfold shOfR
  rw [List.getD_eq_getElem?_getD, hr]
  rfl
end
def fWalk : Fd := fun ds A Q => ∃ (x y w look : Int) (rs : List (Sh × Int)) (n : Nat), ds = [.dat (eng x y w look rs), .int (n : Int)] ∧ A = [] ∧ (n ≠ 0 → rs ≠ []) ∧ n ≤ 1000000 ∧
  ∀ p, Q (.ref p) [(p, .lst (dats ((List.range n).map fun i => pdat (rd x y w rs i))))]
section
variable {B : Bd} {A : Led} {Q : Vd → Led → Prop}
theorem rs_walk {x y w look : Int} {rs : List (Sh × Int)} {n : Nat} (ne : n ≠ 0 → rs ≠ []) (hn : n ≤ 1000000) (k : ∀ p, Q (.ref p) ((p, .lst (dats ((List.range n).map fun i => pdat (rd x y w rs i)))) :: A)) : RS B (spD B.K fWalk) [.dat (eng x y w look rs), .dat (.int (n : Int))] A Q :=
  rs_D [] A [] rfl ⟨x, y, w, look, rs, n, rfl, rfl, ne, hn, k⟩ fun Q Q' k ⟨x, y, w, look, rs, n, h1, h2, h3, h4, h5⟩ => ⟨x, y, w, look, rs, n, h1, h2, h3, h4, fun p => k _ _ (h5 p)⟩
/-- a promise of the elder kind from one over data, nothing touched, data back -/
theorem sp_of_pure {K : PySem.W.Frag} {φ : Fd} {vs : List V} {H : Hp} {Qv : VK} {E : XK} {ds : List PyData} {d : PyData} (hd : DTs K H vs ds) (h : ∀ Q : Vd → Led → Prop, Q (.dat d) [] → φ (dats ds) [] Q) (q : ∀ v' H', Same H H' → DT K H' v' d → Qv v' H') : spD K φ vs H Qv E :=
  ⟨dats ds, [], hd.rvs, ⟨(fun p hp => absurd hp List.not_mem_nil), List.nodup_nil⟩, h _ fun v' H' rv wt => q v' H' (fun a o ha => wt.fr a o (by simp [addrs]) ha) rv⟩
theorem dats_getD {ds : List PyData} {i : Nat} (h : i < ds.length) : (dats ds).getD i (.dat .none) = .dat (ds.getD i .none) := by
  unfold dats
  rw [List.getD_eq_getElem?_getD, List.getElem?_map, List.getD_eq_getElem?_getD]
  cases z : ds[i]? with
  | none => rfl
  | some d => rfl
theorem getD_range {α : Type} {f : Nat → α} {n i : Nat} {d : α} (h : i < n) : ((List.range n).map f).getD i d = f i := by
  rw [List.getD_eq_getElem?_getD, List.getElem?_map, List.getElem?_range h]
  rfl
end
end OR

namespace K06
open PySem PySem.Spec PyProof.Rows L2 OR
local macro_rules | `(tactic| walk_at "dw1") => `(tactic| first
  | with_reducible refine ws_seq ?_
  | with_reducible refine ws_asg ?_
  | with_reducible refine ws_drop ?_
  | with_reducible refine ws_ret ?_
  | with_reducible refine ws_if ?_
  | with_reducible refine ws_next ?_
  | with_reducible refine ws_par ?_
  | with_reducible refine ws_par3 ?_
  | with_reducible refine we_int ?_
  | with_reducible refine we_bl ?_
  | with_reducible refine we_str ?_
  | with_reducible refine we_non ?_
  | with_reducible refine we_op ?_
  | with_reducible refine we_un ?_
  | with_reducible refine we_tup ?_
  | with_reducible refine we_lst ?_
  | with_reducible refine we_if ?_
  | with_reducible refine we_andV ?_
  | with_reducible refine we_orV ?_
  | with_reducible refine we_notV ?_
  | with_reducible refine we_chain ?_
  | with_reducible refine we_call0 ?_
  | with_reducible refine we_cb ?_
  | with_reducible refine we_sl ?_
  | with_reducible refine wo_none ?_
  | with_reducible refine wo_some ?_
  | with_reducible refine wa_cons ?_
  | with_reducible refine wa_nil ?_
  | with_reducible refine wt_test ?_
  | with_reducible refine wt_b ?_
  | with_reducible refine wt_and ?_
  | with_reducible refine wt_or ?_
  | with_reducible refine wt_not ?_
  | with_reducible refine wt_yes ?_
  | with_reducible refine wg_name ?_
  | with_reducible refine wi_rng1 ?_
  | with_reducible refine wi_rng2 ?_
  | with_reducible refine wi_tup ?_
  | with_reducible refine wi_list ?_
  | with_reducible refine wi_enum ?_
  | with_reducible refine wi_str ?_
  | with_reducible refine rw_I0i ?_
  | with_reducible refine rw_I0b ?_
  | with_reducible refine ru_i ?_
  | with_reducible refine rw_eqi ?_
  | with_reducible refine rw_nei ?_
  | with_reducible refine rw_eqs ?_
  | with_reducible refine rw_nes ?_
  | with_reducible refine rsl_tup ?_
  | with_reducible refine rl_lenT ?_
  | with_reducible refine rl_tupT ?_
  | with_reducible refine rl_abs ?_
  | with_reducible refine rl_2 ?_
  | with_reducible refine rl_inti ?_
  | with_reducible refine rl_intb ?_
  | with_reducible refine rw_isN ?_
  | with_reducible refine rw_notN ?_
  | with_reducible refine rs_turn ?_
  | with_reducible refine rs_back ?_
  | with_reducible refine rs_about ?_
  | refine we_var rfl ?_
  | ((with_reducible show WG _ (gTup _ _ _) _ _ _ _); refine wg_tup rfl ?_)
  | ((with_reducible show WGs _ (gCons _ _) _ _ _ _); refine wgs_cons ?_)
  | ((with_reducible show WGs _ gNil _ _ _ _); refine wgs_nil ?_)
  | ((with_reducible show WE _ (tBM _ _ rAppend _ _) _ _ _); refine we_append ?_)
  | ((with_reducible show ∃ k, _ = Vd.bl k ∧ _); refine ⟨_, rfl, ?_⟩)
  | ((with_reducible show ∃ ds, undats _ = some ds ∧ _ ∧ _); refine ⟨_, rfl, Nat.le_of_ble_eq_true rfl, ?_⟩)
  | ((with_reducible show ∃ i, _ = Vd.int i ∧ _); refine ⟨_, rfl, ?_⟩)
  | ((with_reducible show List.length _ ≤ 1000000 ∧ _); refine ⟨Nat.le_of_ble_eq_true rfl, fun _ => ?_⟩)
  | ((with_reducible show ∃ (n : Nat) (p : Addr) (xs : List Vd), _ = Vd.ref p ∧ _); first
      | refine ⟨0, _, _, rfl, rfl, ?_⟩ | refine ⟨1, _, _, rfl, rfl, ?_⟩ | refine ⟨2, _, _, rfl, rfl, ?_⟩ | refine ⟨3, _, _, rfl, rfl, ?_⟩))
local macro_rules | `(tactic| walk_at "dw") => `(tactic| repeat walk_at "dw1")
def topS (i : Nat) : Stmt := PySem.Challenge.pw_ownrail_k06_whole_gone_on_it_keeps_its_r.main.body.getD i (.Pass ⟨0, 0, 0, 0⟩)
abbrev s_way_on : Stmt := topS 3
abbrev N_way_on : List Str := ["way", "shape"]
theorem sc_way_on : FnScope N_way_on ["way", "shape"] (defScope s_way_on) := ⟨rfl, rfl, rfl, by decide +kernel, rfl, by decide +kernel, by decide +kernel⟩
abbrev s_way_behind : Stmt := topS 4
abbrev N_way_behind : List Str := ["way", "shape"]
theorem sc_way_behind : FnScope N_way_behind ["way", "shape"] (defScope s_way_behind) := ⟨rfl, rfl, rfl, by decide +kernel, rfl, by decide +kernel, by decide +kernel⟩
abbrev s_way_about : Stmt := topS 5
abbrev N_way_about : List Str := ["way"]
theorem sc_way_about : FnScope N_way_about ["way"] (defScope s_way_about) := ⟨rfl, rfl, rfl, by decide +kernel, rfl, by decide +kernel, by decide +kernel⟩
abbrev s_onward : Stmt := topS 6
abbrev N_onward : List Str := ["square", "way", "steps", "x", "y", "dx", "dy"]
theorem sc_onward : FnScope N_onward ["square", "way", "steps"] (defScope s_onward) := ⟨rfl, rfl, rfl, by decide +kernel, rfl, by decide +kernel, by decide +kernel⟩
abbrev s_walk : Stmt := topS 8
abbrev N_walk : List Str := ["engine", "many", "x", "y", "way", "look", "rails", "square", "places", "at", "shape", "colour"]
theorem sc_walk : FnScope N_walk ["engine", "many"] (defScope s_walk) := ⟨rfl, rfl, rfl, by decide +kernel, rfl, by decide +kernel, by decide +kernel⟩
abbrev s_squares_of : Stmt := topS 9
abbrev N_squares_of : List Str := ["engine", "x", "y", "way", "look", "rails", "square", "onto"]
theorem sc_squares_of : FnScope N_squares_of ["engine"] (defScope s_squares_of) := ⟨rfl, rfl, rfl, by decide +kernel, rfl, by decide +kernel, by decide +kernel⟩
abbrev s_gone_on : Stmt := topS 10
abbrev N_gone_on : List Str := ["engine", "x", "y", "way", "look", "rails"]
theorem sc_gone_on : FnScope N_gone_on ["engine"] (defScope s_gone_on) := ⟨rfl, rfl, rfl, by decide +kernel, rfl, by decide +kernel, by decide +kernel⟩
abbrev s_gone_forward : Stmt := topS 11
abbrev N_gone_forward : List Str := ["engine", "x", "y", "way", "look", "rails", "shape", "colour", "next_way", "next_x", "next_y"]
theorem sc_gone_forward : FnScope N_gone_forward ["engine"] (defScope s_gone_forward) := ⟨rfl, rfl, rfl, by decide +kernel, rfl, by decide +kernel, by decide +kernel⟩
abbrev s_gone_back : Stmt := topS 12
abbrev N_gone_back : List Str := ["engine", "x", "y", "way", "look", "rails", "shape", "colour", "next_x", "next_y"]
theorem sc_gone_back : FnScope N_gone_back ["engine"] (defScope s_gone_back) := ⟨rfl, rfl, rfl, by decide +kernel, rfl, by decide +kernel, by decide +kernel⟩
abbrev s_turned_by_hand : Stmt := topS 13
abbrev N_turned_by_hand : List Str := ["engine", "x", "y", "way", "look", "rails"]
theorem sc_turned_by_hand : FnScope N_turned_by_hand ["engine"] (defScope s_turned_by_hand) := ⟨rfl, rfl, rfl, by decide +kernel, rfl, by decide +kernel, by decide +kernel⟩
abbrev s__law_box : Stmt := topS 15
abbrev N__law_box : List Str := ["_law_script", "_law_k", "_law_cell", "_law_seed"]
theorem sc__law_box : FnScope N__law_box ["_law_script", "_law_k"] (defScope s__law_box) := ⟨rfl, rfl, rfl, by decide +kernel, rfl, by decide +kernel, by decide +kernel⟩
abbrev s__law_take : Stmt := topS 16
abbrev N__law_take : List Str := ["_law_box_here", "_law_many", "_law_digit", "_law_one"]
theorem sc__law_take : FnScope N__law_take ["_law_box_here", "_law_many"] (defScope s__law_take) := ⟨rfl, rfl, rfl, by decide +kernel, rfl, by decide +kernel, by decide +kernel⟩
abbrev s__law_turned : Stmt := topS 17
abbrev N__law_turned : List Str := ["_law_way", "_law_shape"]
theorem sc__law_turned : FnScope N__law_turned ["_law_way", "_law_shape"] (defScope s__law_turned) := ⟨rfl, rfl, rfl, by decide +kernel, rfl, by decide +kernel, by decide +kernel⟩
abbrev s__law_on : Stmt := topS 18
abbrev N__law_on : List Str := ["_law_square", "_law_way", "_law_x", "_law_y"]
theorem sc__law_on : FnScope N__law_on ["_law_square", "_law_way"] (defScope s__law_on) := ⟨rfl, rfl, rfl, by decide +kernel, rfl, by decide +kernel, by decide +kernel⟩
abbrev s__law_engine : Stmt := topS 19
abbrev N__law_engine : List Str := ["_law_box_here", "_law_many", "_law_far", "_law_x", "_law_y", "_law_way", "_law_look", "_law_rails", "_law_squares", "_law_here", "_law_ahead", "_law_turn", "_law_shape", "_law_colour"]
theorem sc__law_engine : FnScope N__law_engine ["_law_box_here", "_law_many", "_law_far"] (defScope s__law_engine) := ⟨rfl, rfl, rfl, by decide +kernel, rfl, by decide +kernel, by decide +kernel⟩
abbrev s__law_walked : Stmt := topS 20
abbrev N__law_walked : List Str := ["_law_engine_here", "_law_first", "_law_last", "_law_x", "_law_y", "_law_way", "_law_look", "_law_rails", "_law_many", "_law_found", "_law_here", "_law_i", "_law_behind", "_law_ahead"]
theorem sc__law_walked : FnScope N__law_walked ["_law_engine_here", "_law_first", "_law_last"] (defScope s__law_walked) := ⟨rfl, rfl, rfl, by decide +kernel, rfl, by decide +kernel, by decide +kernel⟩
abbrev s__law_lies_right : Stmt := topS 21
abbrev N__law_lies_right : List Str := ["_law_engine_here", "_law_road", "_law_many", "_law_at", "_law_rails", "_law_row", "_law_k", "_law_one", "_law_way"]
theorem sc__law_lies_right : FnScope N__law_lies_right ["_law_engine_here", "_law_road", "_law_many", "_law_at"] (defScope s__law_lies_right) := ⟨rfl, rfl, rfl, by decide +kernel, rfl, by decide +kernel, by decide +kernel⟩
abbrev s_law : Stmt := topS 22
abbrev N_law : List Str := ["_law_script", "_law_k", "_law_box_here", "_law_engine_here", "_law_many", "_law_road", "_law_at", "_law_here", "_law_turn", "_law_far"]
theorem sc_law : FnScope N_law ["_law_script"] (defScope s_law) := ⟨rfl, rfl, rfl, by decide +kernel, rfl, by decide +kernel, by decide +kernel⟩
structure Txt (K : PySem.W.Frag) (w : World) (mg : Str → Option Value) where
  f_way_on : Addr
  fd_way_on : FuncData
  F_way_on : Fun K "way_on" "way_on" s_way_on f_way_on fd_way_on
  b_way_on : Binds K fd_way_on ["way", "shape"] []
  g_way_on : mg "way_on" = some (.ref f_way_on)
  f_way_behind : Addr
  fd_way_behind : FuncData
  F_way_behind : Fun K "way_behind" "way_behind" s_way_behind f_way_behind fd_way_behind
  b_way_behind : Binds K fd_way_behind ["way", "shape"] []
  g_way_behind : mg "way_behind" = some (.ref f_way_behind)
  f_way_about : Addr
  fd_way_about : FuncData
  F_way_about : Fun K "way_about" "way_about" s_way_about f_way_about fd_way_about
  b_way_about : Binds K fd_way_about ["way"] []
  g_way_about : mg "way_about" = some (.ref f_way_about)
  f_walk : Addr
  fd_walk : FuncData
  F_walk : Fun K "walk" "walk" s_walk f_walk fd_walk
  b_walk : Binds K fd_walk ["engine", "many"] []
  g_walk : mg "walk" = some (.ref f_walk)
  f_squares_of : Addr
  fd_squares_of : FuncData
  F_squares_of : Fun K "squares_of" "squares_of" s_squares_of f_squares_of fd_squares_of
  b_squares_of : Binds K fd_squares_of ["engine"] []
  g_squares_of : mg "squares_of" = some (.ref f_squares_of)
  f_gone_on : Addr
  fd_gone_on : FuncData
  F_gone_on : Fun K "gone_on" "gone_on" s_gone_on f_gone_on fd_gone_on
  b_gone_on : Binds K fd_gone_on ["engine"] []
  g_gone_on : mg "gone_on" = some (.ref f_gone_on)
  f_gone_forward : Addr
  fd_gone_forward : FuncData
  F_gone_forward : Fun K "gone_forward" "gone_forward" s_gone_forward f_gone_forward fd_gone_forward
  b_gone_forward : Binds K fd_gone_forward ["engine"] []
  g_gone_forward : mg "gone_forward" = some (.ref f_gone_forward)
  f_gone_back : Addr
  fd_gone_back : FuncData
  F_gone_back : Fun K "gone_back" "gone_back" s_gone_back f_gone_back fd_gone_back
  b_gone_back : Binds K fd_gone_back ["engine"] []
  g_gone_back : mg "gone_back" = some (.ref f_gone_back)
  f_turned_by_hand : Addr
  fd_turned_by_hand : FuncData
  F_turned_by_hand : Fun K "turned_by_hand" "turned_by_hand" s_turned_by_hand f_turned_by_hand fd_turned_by_hand
  b_turned_by_hand : Binds K fd_turned_by_hand ["engine"] []
  g_turned_by_hand : mg "turned_by_hand" = some (.ref f_turned_by_hand)
  f__law_box : Addr
  fd__law_box : FuncData
  F__law_box : Fun K "_law_box" "_law_box" s__law_box f__law_box fd__law_box
  b__law_box : Binds K fd__law_box ["_law_script", "_law_k"] []
  g__law_box : mg "_law_box" = some (.ref f__law_box)
  f__law_take : Addr
  fd__law_take : FuncData
  F__law_take : Fun K "_law_take" "_law_take" s__law_take f__law_take fd__law_take
  b__law_take : Binds K fd__law_take ["_law_box_here", "_law_many"] []
  g__law_take : mg "_law_take" = some (.ref f__law_take)
  f__law_turned : Addr
  fd__law_turned : FuncData
  F__law_turned : Fun K "_law_turned" "_law_turned" s__law_turned f__law_turned fd__law_turned
  b__law_turned : Binds K fd__law_turned ["_law_way", "_law_shape"] []
  g__law_turned : mg "_law_turned" = some (.ref f__law_turned)
  f__law_on : Addr
  fd__law_on : FuncData
  F__law_on : Fun K "_law_on" "_law_on" s__law_on f__law_on fd__law_on
  b__law_on : Binds K fd__law_on ["_law_square", "_law_way"] []
  g__law_on : mg "_law_on" = some (.ref f__law_on)
  f__law_engine : Addr
  fd__law_engine : FuncData
  F__law_engine : Fun K "_law_engine" "_law_engine" s__law_engine f__law_engine fd__law_engine
  b__law_engine : Binds K fd__law_engine ["_law_box_here", "_law_many", "_law_far"] []
  g__law_engine : mg "_law_engine" = some (.ref f__law_engine)
  f__law_walked : Addr
  fd__law_walked : FuncData
  F__law_walked : Fun K "_law_walked" "_law_walked" s__law_walked f__law_walked fd__law_walked
  b__law_walked : Binds K fd__law_walked ["_law_engine_here", "_law_first", "_law_last"] []
  g__law_walked : mg "_law_walked" = some (.ref f__law_walked)
  f__law_lies_right : Addr
  fd__law_lies_right : FuncData
  F__law_lies_right : Fun K "_law_lies_right" "_law_lies_right" s__law_lies_right f__law_lies_right fd__law_lies_right
  b__law_lies_right : Binds K fd__law_lies_right ["_law_engine_here", "_law_road", "_law_many", "_law_at"] []
  g__law_lies_right : mg "_law_lies_right" = some (.ref f__law_lies_right)
  m_int : mg "int" = none
  m_len : mg "len" = none
  m_list : mg "list" = none
  m_max : mg "max" = none
  m_min : mg "min" = none
  m_range : mg "range" = none
  m_tuple : mg "tuple" = none
  a_TURNS : Addr
  g_TURNS : mg "TURNS" = some (.ref a_TURNS)
  TURNS : ∀ s : Sh, KDct K w a_TURNS s.str (.int s.t)
  a_STEPS : Addr
  g_STEPS : mg "STEPS" = some (.ref a_STEPS)
  STEPS : ∀ H, DT K H (.ref a_STEPS) (.tuple [sq (0, 1), sq (1, 0), sq (0, -1), sq (-1, 0)])
  f_onward : Addr
  fd_onward : FuncData
  F_onward : FunD K "onward" "onward" (defArgs s_onward) (defBody s_onward) (defScope s_onward) [] [("steps", .int 1)] f_onward fd_onward
  ds_onward : List Value
  v_onward : Vals [.int 1] ds_onward
  b_onward : Binds K fd_onward ["square", "way", "steps"] ds_onward
  g_onward : mg "onward" = some (.ref f_onward)
/-! ### the law's draws -/
section
variable {P : Program} {w : World} {K : PySem.W.Frag} {mg : Str → Option Value} {base : Heap}
theorem ok__law_take (T : Txt K w mg) : FnOk P w K mg base CX0 1 T.f__law_take T.fd__law_take ["_law_box_here", "_law_many"] spTake := by
  refine T.F__law_take.ok sc__law_take (fun vs H Q E h => ?_) (fun cdv A outer s H vs Q E hr h => ?_)
  · obtain ⟨b, m, rfl, _⟩ := h
    rfl
  · obtain ⟨b, m, rfl, ⟨i, s, c, hb⟩, hm, hm2, q⟩ := h
    refine ⟨_, (pss_cons (ps_if (pt_cmpR op_gt (pe_ix ix_list (pv 0) pe_int (fun _ _ => rfl)) pe_int (nomark _))
 (pss_cons (ps_set (i := 2) sc__law_take.nd rfl (.inl rfl) (pe_op op_mod (pe_ix ix_list (pv 0) pe_int (fun _ _ => rfl)) (pv 1)))
 (pss_cons (ps_asg (pe_op op_fdivW (pe_ix ix_list (pv 0) pe_int (fun _ _ => rfl)) (pv 1)) (pg_sub (pv 0) pe_int set_list))
 (pss_one (ps_ret (pv 2)))))
 pss_nil)
 (pss_cons (ps_asg (pe_op op_add (pe_ix ix_list (pv 0) pe_int (fun _ _ => rfl)) pe_int) (pg_sub (pv 0) pe_int set_list))
 (pss_cons (ps_set (i := 3) sc__law_take.nd rfl (.inl rfl) (pe_op op_mod (pe_op op_mul (pe_op op_add (pe_ix ix_list (pv 0) pe_int (fun _ _ => rfl)) (pe_op op_mul pe_int (pe_ix ix_list (pv 0) pe_int (fun _ _ => rfl)))) pe_int) pe_int))
 (pss_cons (ps_asg (pe_op op_add (pe_op op_mod (pe_op op_add (pe_op op_mul (pv 3) pe_int) pe_int) pe_int) pe_int) (pg_sub (pv 0) pe_int set_list))
 (pss_one (ps_ret (pe_op op_mod (pe_op op_fdivW (pe_op op_add (pe_op op_mul (pv 3) pe_int) (pe_ix ix_list (pv 0) pe_int (fun _ _ => rfl))) pe_int) (pv 1)))))))), ?_⟩
    refine ⟨.ref b, rfl, b, _, 0, .int i, rfl, rfl, SqL.of hb, rfl, i, 0, rfl, rfl, _, rfl, ite2 (fun _ => ?_) (fun _ => ?_)⟩
    · refine ⟨.ref b, rfl, b, _, 0, .int i, rfl, rfl, SqL.of hb, rfl, .int m, rfl, i, m, rfl, rfl, hm, ?_⟩
      refine ⟨.ref b, rfl, b, _, 0, .int i, rfl, rfl, SqL.of hb, rfl, .int m, rfl, i, m, rfl, rfl, div_ok hm hm2, ?_⟩
      refine ⟨.ref b, rfl, b, _, 0, 0, rfl, rfl, hb, rfl, ?_⟩
      exact ⟨.int (i % m), rfl, q _ _ (mod_in hm).1 (mod_in hm).2 but_set ⟨_, _, _, upd_same⟩⟩
    · refine ⟨.ref b, rfl, b, _, 2, .int c, rfl, rfl, SqL.of hb, rfl, c, 1, rfl, rfl, ?_⟩
      refine ⟨.ref b, rfl, b, _, 2, 2, rfl, rfl, hb, rfl, ?_⟩
      have h1 : (upd H b (.lst [.int i, .int s, .int (c + 1)])) b = some (.lst [.int i, .int s, .int (c + 1)]) := upd_same
      refine ⟨.ref b, rfl, b, _, 1, .int s, rfl, rfl, SqL.of h1, rfl, .ref b, rfl, b, _, 2, .int (c + 1), rfl, rfl, SqL.of h1, rfl, 104729, c + 1, rfl, rfl, .inl ⟨by decide, by decide⟩, _, _, rfl, rfl, _, 69623, rfl, rfl, .inr ⟨by decide, by decide⟩, _, 2147483647, rfl, rfl, by show (0 : Int) < 2147483647; decide, ?_⟩
      refine ⟨_, rfl, _, 48271, rfl, rfl, .inr ⟨by decide, by decide⟩, _, 30103, rfl, rfl, _, 2147483629, rfl, rfl, by show (0 : Int) < 2147483629; decide, _, 1, rfl, rfl, ?_⟩
      refine ⟨.ref b, rfl, b, _, 1, 1, rfl, rfl, h1, rfl, ?_⟩
      refine ⟨_, rfl, _, 2147483647, rfl, rfl, .inr ⟨by decide, by decide⟩, .ref b, rfl, b, _, 1, _, rfl, rfl, SqL.of upd_same, rfl, _, _, rfl, rfl, _, 8191, rfl, rfl, div_ok (by decide) (by decide), .int m, rfl, _, m, rfl, rfl, hm, ?_⟩
      exact q _ _ (mod_in hm).1 (mod_in hm).2 (but_set.trans but_set) ⟨_, _, _, upd_same⟩
theorem ok__law_box (T : Txt K w mg) : FnOk P w K mg base CX0 1 T.f__law_box T.fd__law_box ["_law_script", "_law_k"] (spBox K) := by
  refine T.F__law_box.ok sc__law_box (fun vs H Q E h => ?_) (fun cdv A outer s H vs Q E hr h => ?_)
  · obtain ⟨a, ns, k, rfl, _⟩ := h
    rfl
  · obtain ⟨a, ns, k, rfl, hS, h0, h6, q⟩ := h
    refine ⟨_, (pss_cons (ps_set (i := 2) sc__law_box.nd rfl (.inl rfl) (pe_op op_add (pe_op op_mul pe_int (pv 1)) pe_int))
 (Evl.pss_cut (ps_if (pt_cmpR op_lt (pv 1) (pe_callB call_len_seq (by rfl) T.m_len (by decide +kernel) (pa_cons (pv 0) pa_nil)) (nomark _))
 (pss_one (ps_set (i := 2) sc__law_box.nd rfl (.inl rfl) (pe_ix ix_list (pv 0) (pv 1) (fun _ _ => rfl))))
 (pss_one (ps_if (pt_cmpR op_gt (pe_callB call_len_seq (by rfl) T.m_len (by decide +kernel) (pa_cons (pv 0) pa_nil)) pe_int (nomark _))
 (pss_one (ps_set (i := 2) sc__law_box.nd rfl (.inl rfl) (pe_op op_add (pv 2) (pe_op op_mul (pe_op op_mod (pe_ix ix_list (pv 0) (pe_op op_mod (pv 1) (pe_callB call_len_seq (by rfl) T.m_len (by decide +kernel) (pa_cons (pv 0) pa_nil))) (fun _ _ => rfl)) pe_int) pe_int))))
 pss_nil)))
 (pss_cons (ps_set (i := 3) sc__law_box.nd rfl (.inl rfl) (pe_op op_add (pe_op op_mod (pe_op op_add (pe_op op_mul (pe_op op_mod (pv 2) pe_int) pe_int) (pe_op op_mul pe_int (pv 1))) pe_int) pe_int))
 (pss_one (ps_ret (pe_lst (pa_cons (pe_ix ix_list (pe_lst (pa_cons pe_int (pa_cons (pv 2) pa_nil))) (pe_callTy call_int1 (by rfl) T.m_int (by decide +kernel) (pa_cons (pe_cmpR op_ge (pv 2) (pe_op op_pow pe_int pe_int) (nomark _)) pa_nil)) (fun _ _ => rfl)) (pa_cons (pv 3) (pa_cons pe_int pa_nil))))))))), ?_⟩
    refine ⟨.int k, rfl, 6263, k, rfl, rfl, .inl ⟨by decide, by decide⟩, _, 31, rfl, rfl, ?_⟩
    refine ⟨fun σ H' => ∃ c : Int, σ = [some (.ref a), some (.int k), some (.int c), none] ∧ H' = H, ?_, ?_⟩
    · refine ⟨.int k, rfl, .ref a, rfl, a, _, rfl, .inl hS, k, _, rfl, rfl, _, rfl, ite2 (fun e => ?_) (fun e => ?_)⟩
      · have e1 := of_decide_eq_true e
        rw [List.length_map] at e1
        obtain ⟨z, hz⟩ := atI_ints h0 e1
        exact ⟨.ref a, rfl, .int k, rfl, a, _, k, .int z, rfl, rfl, hS, hz, z, rfl, rfl⟩
      · refine ⟨.ref a, rfl, a, _, rfl, .inl hS, _, 0, rfl, rfl, _, rfl, ite2 (fun e => ?_) (fun e => ?_)⟩
        · have e1 := of_decide_eq_true e
          have e2 : (0 : Int) < ((ns.map V.int).length : Int) := e1
          have m2 := mod_in (a := k) e2
          obtain ⟨z, hz⟩ := atI_ints (ns := ns) m2.1 (by have := m2.2; rw [List.length_map] at this; rw [List.length_map]; exact this)
          refine ⟨.int (6263 * k + 31), rfl, .ref a, rfl, .int k, rfl, .ref a, rfl, a, _, rfl, .inl hS, k, _, rfl, rfl, e1, a, _, _, .int z, rfl, rfl, hS, hz, z, 2147483629, rfl, rfl, by show (0 : Int) < 2147483629; decide, _, 69623, rfl, rfl, .inr ⟨by decide, by decide⟩, _, _, rfl, rfl, _, rfl, rfl⟩
        · exact ⟨_, rfl, rfl⟩
    · rintro σ H' ⟨c, rfl, rfl⟩
      refine ⟨.int c, rfl, c, 2147483629, rfl, rfl, by show (0 : Int) < 2147483629; decide, _, 48271, rfl, rfl, .inr ⟨by decide, by decide⟩, .int k, rfl, 40692, k, rfl, rfl, .inl ⟨by decide, by decide⟩, _, _, rfl, rfl, _, 2147483629, rfl, rfl, by show (0 : Int) < 2147483629; decide, _, 1, rfl, rfl, ?_⟩
      refine ⟨.int c, rfl, by show 2 ≤ sizeLine; decide, fun p np => ?_⟩
      refine ⟨.int c, rfl, 10, 18, rfl, rfl, ⟨by decide, by decide, by decide⟩, c, _, rfl, rfl, .inr ⟨_, rfl, ?_⟩⟩
      have hx : ∃ z : Int, atI [V.int 0, V.int c] (if (decide ((10 : Int) ^ (18 : Int).toNat ≤ c)) = true then 1 else 0) = some (.int z) := by
        by_cases h : (decide ((10 : Int) ^ (18 : Int).toNat ≤ c)) = true
        · rw [if_pos h]
          exact ⟨c, rfl⟩
        · rw [if_neg h]
          exact ⟨0, rfl⟩
      obtain ⟨z, hz⟩ := hx
      refine ⟨p, _, _, .int z, rfl, rfl, SqL.of upd_same, hz, _, rfl, by show 3 ≤ sizeLine; decide, fun b nb => ?_⟩
      refine q b _ ?_ ((same_new np).trans (same_new nb)) ⟨_, _, _, upd_same⟩
      exact (same_new np).free nb
theorem ok__law_turned (T : Txt K w mg) : FnOk P w K mg base CX0 1 T.f__law_turned T.fd__law_turned ["_law_way", "_law_shape"] spTurn := by
  refine T.F__law_turned.ok sc__law_turned (fun vs H Q E h => ?_) (fun cdv A outer s H vs Q E hr h => ?_)
  · obtain ⟨w, s, rfl, _⟩ := h
    rfl
  · obtain ⟨w, s, rfl, q⟩ := h
    refine ⟨_, (pss_one (ps_ret (pe_op op_mod (pe_op op_add (pv 0) (pe_dget (hu_of hr) (pe_disp (pps_cons pe_str pe_int (pps_cons pe_str pe_int (pps_cons pe_str pe_int pps_nil))) (by rfl) (by rfl) (fun z => by cases z) (by decide)) (pv 1) (fun _ _ => rfl))) pe_int))), ?_⟩
    refine ⟨.int w, rfl, fun p np => ?_⟩
    refine ⟨upd_same, [(Sum.inr "l", .int 3), (Sum.inr "s", .int 0), (Sum.inr "r", .int 1)], rfl, by decide, ?_⟩
    refine ⟨.str s.str, rfl, p, .int (t3 s), rfl, ?_, w, t3 s, rfl, rfl, _, 4, rfl, rfl, by show (0 : Int) < 4; decide, ?_⟩
    · cases s with
      | l => exact .inl ⟨_, Sum.inr "l", .inl upd_same, rfl, by decide +kernel⟩
      | s => exact .inl ⟨_, Sum.inr "s", .inl upd_same, rfl, by decide +kernel⟩
      | r => exact .inl ⟨_, Sum.inr "r", .inl upd_same, rfl, by decide +kernel⟩
    · show Q (.int ((w + t3 s) % 4)) _
      rw [t3_tn]
      exact q _ (by rw [upd_upd]; exact same_new np)
theorem ok__law_on (T : Txt K w mg) : FnOk P w K mg base CX0 1 T.f__law_on T.fd__law_on ["_law_square", "_law_way"] (spOn K) := by
  refine T.F__law_on.ok sc__law_on (fun vs H Q E h => ?_) (fun cdv A outer s H vs Q E hr h => ?_)
  · obtain ⟨v, p, w, rfl, _⟩ := h
    rfl
  · obtain ⟨v, p, w, rfl, hd, w0, w3, q⟩ := h
    obtain ⟨x, y⟩ := p
    obtain ⟨a, xs, rfl, hs, hxs⟩ := hd.tupOf
    obtain ⟨v1, v2, rfl, d1, d2⟩ := hxs.two
    cases d1.intOf
    cases d2.intOf
    refine ⟨_, (pss_cons (ps_asg (pv 0) (pg_tup (n := 2) rfl (pgs_cons (pg_name (i := 2) sc__law_on.nd rfl (.inl rfl)) (pgs_cons (pg_name (i := 3) sc__law_on.nd rfl (.inl rfl)) pgs_nil))))
 (pss_one (ps_ret (pe_ix ix_list (pe_lst (pa_cons (pe_tup (pa_cons (pv 2) (pa_cons (pe_op op_add (pv 3) pe_int) pa_nil))) (pa_cons (pe_tup (pa_cons (pe_op op_add (pv 2) pe_int) (pa_cons (pv 3) pa_nil))) (pa_cons (pe_tup (pa_cons (pv 2) (pa_cons (pe_op op_sub (pv 3) pe_int) pa_nil))) (pa_cons (pe_tup (pa_cons (pe_op op_sub (pv 2) pe_int) (pa_cons (pv 3) pa_nil))) pa_nil))))) (pv 1) (fun _ _ => rfl))))), ?_⟩
    refine ⟨.ref a, rfl, a, _, rfl, hs, rfl, _, _, rfl, _, _, rfl, rfl, ?_⟩
    refine ⟨.int x, rfl, .int y, rfl, y, 1, rfl, rfl, by show 2 ≤ sizeLine; decide, fun p1 n1 => ?_⟩
    refine ⟨.int x, rfl, x, 1, rfl, rfl, .int y, rfl, by show 2 ≤ sizeLine; decide, fun p2 n2 => ?_⟩
    refine ⟨.int x, rfl, .int y, rfl, y, 1, rfl, rfl, by show 2 ≤ sizeLine; decide, fun p3 n3 => ?_⟩
    refine ⟨.int x, rfl, x, 1, rfl, rfl, .int y, rfl, by show 2 ≤ sizeLine; decide, fun p4 n4 => ?_⟩
    refine ⟨by show 4 ≤ sizeLine; decide, fun p n => ?_⟩
    have sm := ((((same_new n1).trans (same_new n2)).trans (same_new n3)).trans (same_new n4)).trans (same_new (o := HO.lst [.ref p1, .ref p2, .ref p3, .ref p4]) n)
    have tn := tk_new (o := HO.lst [.ref p1, .ref p2, .ref p3, .ref p4]) n
    have e1 := (DT.new (K := K) (.cons (.int x) (.cons (.int (y + 1)) .nil)) n1).up ((((tk_new n2).trans (tk_new n3)).trans (tk_new n4)).trans tn)
    have e2 := (DT.new (K := K) (.cons (.int (x + 1)) (.cons (.int y) .nil)) n2).up (((tk_new n3).trans (tk_new n4)).trans tn)
    have e3 := (DT.new (K := K) (.cons (.int x) (.cons (.int (y - 1)) .nil)) n3).up ((tk_new n4).trans tn)
    have e4 := (DT.new (K := K) (.cons (.int (x - 1)) (.cons (.int y) .nil)) n4).up tn
    rcases way4 w0 w3 with rfl | rfl | rfl | rfl
    · exact ⟨.int 0, rfl, p, _, 0, .ref p1, rfl, rfl, SqL.of upd_same, rfl, q _ _ sm (by simpa [sq, on, dx, dy] using e1)⟩
    · exact ⟨.int 1, rfl, p, _, 1, .ref p2, rfl, rfl, SqL.of upd_same, rfl, q _ _ sm (by simpa [sq, on, dx, dy] using e2)⟩
    · exact ⟨.int 2, rfl, p, _, 2, .ref p3, rfl, rfl, SqL.of upd_same, rfl, q _ _ sm (by simpa [sq, on, dx, dy, Int.sub_eq_add_neg] using e3)⟩
    · exact ⟨.int 3, rfl, p, _, 3, .ref p4, rfl, rfl, SqL.of upd_same, rfl, q _ _ sm (by simpa [sq, on, dx, dy, Int.sub_eq_add_neg] using e4)⟩
theorem ok__law_engine (T : Txt K w mg) : FnOk P w K mg base CX0 2 T.f__law_engine T.fd__law_engine ["_law_box_here", "_law_many", "_law_far"] (spEngine K) := by
  refine T.F__law_engine.ok sc__law_engine (fun vs H Q E h => ?_) (fun cdv A outer s H vs Q E hr h => ?_)
  · obtain ⟨b, m, far, rfl, _⟩ := h
    rfl
  · obtain ⟨b, m, far, rfl, hb, m0, m12, f0, f9, q⟩ := h
    refine ⟨_, (pss_cons (ps_par3 (i := 3) (j := 4) (l := 5) (by rfl) sc__law_engine.nd rfl rfl rfl (by decide) (by decide) (by decide) rfl rfl rfl (pa_cons (pe_op op_sub (pe_call (ok__law_take T) (hr.mono (by decide)) (by rfl) T.g__law_take T.F__law_take.kp T.b__law_take .nil pass0 (pa_cons (pv 0) (pa_cons (pe_op op_add (pe_op op_mul pe_int (pv 2)) pe_int) pa_nil))) (pv 2)) (pa_cons (pe_op op_sub (pe_call (ok__law_take T) (hr.mono (by decide)) (by rfl) T.g__law_take T.F__law_take.kp T.b__law_take .nil pass0 (pa_cons (pv 0) (pa_cons (pe_op op_add (pe_op op_mul pe_int (pv 2)) pe_int) pa_nil))) (pv 2)) (pa_cons (pe_call (ok__law_take T) (hr.mono (by decide)) (by rfl) T.g__law_take T.F__law_take.kp T.b__law_take .nil pass0 (pa_cons (pv 0) (pa_cons pe_int pa_nil))) pa_nil))) (by rfl))
 (pss_cons (ps_asg (pe_tup (pa_cons (pe_op op_sub pe_int (pe_op op_mul pe_int (pe_call (ok__law_take T) (hr.mono (by decide)) (by rfl) T.g__law_take T.F__law_take.kp T.b__law_take .nil pass0 (pa_cons (pv 0) (pa_cons pe_int pa_nil))))) (pa_cons (pe_lst pa_nil) (pa_cons (pe_lst pa_nil) (pa_cons (pe_tup (pa_cons (pv 3) (pa_cons (pv 4) pa_nil))) (pa_cons (pv 5) pa_nil)))))) (pg_tup (n := 5) rfl (pgs_cons (pg_name (i := 6) sc__law_engine.nd rfl (.inl rfl)) (pgs_cons (pg_name (i := 7) sc__law_engine.nd rfl (.inl rfl)) (pgs_cons (pg_name (i := 8) sc__law_engine.nd rfl (.inl rfl)) (pgs_cons (pg_name (i := 9) sc__law_engine.nd rfl (.inl rfl)) (pgs_cons (pg_name (i := 10) sc__law_engine.nd rfl (.inl rfl)) pgs_nil)))))))
 (pss_cons (ps_for PassesOwn.never rfl (pi_range1 (by rfl) T.m_range (pa_cons (pe_op op_add pe_int (pe_call (ok__law_take T) (hr.mono (by decide)) (by rfl) T.g__law_take T.F__law_take.kp T.b__law_take .nil pass0 (pa_cons (pv 0) (pa_cons (pv 1) pa_nil)))) pa_nil)) (pg_name (i := 11) sc__law_engine.nd rfl (.inl rfl))
 (pss_cons (ps_par (i := 12) (j := 13) (by rfl) sc__law_engine.nd rfl rfl (by decide) rfl rfl (pa_cons (pe_ix ix_str pe_str (pe_call (ok__law_take T) (hr.mono (by decide)) (by rfl) T.g__law_take T.F__law_take.kp T.b__law_take .nil pass0 (pa_cons (pv 0) (pa_cons pe_int pa_nil))) (fun _ _ => rfl)) (pa_cons (pe_call (ok__law_take T) (hr.mono (by decide)) (by rfl) T.g__law_take T.F__law_take.kp T.b__law_take .nil pass0 (pa_cons (pv 0) (pa_cons pe_int pa_nil))) pa_nil)) (by rfl))
 (pss_one (ps_if (pt_cmpR (op_notInD (hu65 hr)) (pv 9) (pv 8) (by with_unfolding_all rfl))
 (pss_cons (ps_expr (pe_bm PySem.F.plainAttrs_list PySem.F.slot_list_append PySem.F.type_list_append mt_append (pv 7) (pa_cons (pe_tup (pa_cons (pv 12) (pa_cons (pv 13) pa_nil))) pa_nil)))
 (pss_cons (ps_expr (pe_bm PySem.F.plainAttrs_list PySem.F.slot_list_append PySem.F.type_list_append mt_append (pv 8) (pa_cons (pv 9) pa_nil)))
 (pss_cons (ps_set (i := 10) sc__law_engine.nd rfl (.inl rfl) (pe_call (ok__law_turned T) (hr.mono (by decide)) (by rfl) T.g__law_turned T.F__law_turned.kp T.b__law_turned .nil pass0 (pa_cons (pv 10) (pa_cons (pv 12) pa_nil))))
 (pss_one (ps_set (i := 9) sc__law_engine.nd rfl (.inl rfl) (pe_call (ok__law_on T) (hr.mono (by decide)) (by rfl) T.g__law_on T.F__law_on.kp T.b__law_on .nil pass0 (pa_cons (pv 9) (pa_cons (pv 10) pa_nil))))))))
 pss_nil))))
 (pss_one (ps_ret (pe_tup (pa_cons (pv 3) (pa_cons (pv 4) (pa_cons (pv 5) (pa_cons (pv 6) (pa_cons (pe_callTy call_tuple_of (by rfl) T.m_tuple (by decide +kernel) (pa_cons (pv 7) pa_nil)) pa_nil))))))))))), ?_⟩
    -- x, y, way
    refine ⟨.ref b, rfl, .int far, rfl, 2, far, rfl, rfl, .inl ⟨by decide, by decide⟩, _, 1, rfl, rfl, b, 2 * far + 1, rfl, hb, by omega, by omega, fun r1 H1 a1 a2 e1 hb1 => ?_⟩
    refine ⟨.int far, rfl, r1, far, rfl, rfl, ?_⟩
    refine ⟨.ref b, rfl, .int far, rfl, 2, far, rfl, rfl, .inl ⟨by decide, by decide⟩, _, 1, rfl, rfl, b, 2 * far + 1, rfl, hb1, by omega, by omega, fun r2 H2 a3 a4 e2 hb2 => ?_⟩
    refine ⟨.int far, rfl, r2, far, rfl, rfl, ?_⟩
    refine ⟨.ref b, rfl, b, 4, rfl, hb2, by decide, by decide, fun r3 H3 a5 a6 e3 hb3 => ?_⟩
    refine ⟨_, _, _, rfl, ?_⟩
    -- look, rails, squares, here, ahead
    refine ⟨.ref b, rfl, b, 2, rfl, hb3, by decide, by decide, fun r4 H4 a7 a8 e4 hb4 => ?_⟩
    refine ⟨2, r4, rfl, rfl, .inl ⟨by decide, by decide⟩, 1, _, rfl, rfl, ?_⟩
    refine ⟨Nat.zero_le _, fun p1 n1 => ⟨Nat.zero_le _, fun p2 n2 => ?_⟩⟩
    refine ⟨.int (r1 - far), rfl, .int (r2 - far), rfl, by show 2 ≤ sizeLine; decide, fun t nt => ?_⟩
    refine ⟨.int r3, rfl, by show 5 ≤ sizeLine; decide, fun u nu => ?_⟩
    refine ⟨u, _, rfl, SqT.of upd_same, rfl, _, _, rfl, _, _, rfl, _, _, rfl, _, _, rfl, _, _, rfl, rfl, ?_⟩
    have nb1 : p1 ≠ b := fun z => by
      obtain ⟨_, _, _, hb4⟩ := hb4
      rw [z, hb4] at n1
      cases n1
    have n21 : p2 ≠ p1 := fun z => by
      rw [z, upd_same] at n2
      cases n2
    have nb2 : p2 ≠ b := fun z => by
      obtain ⟨_, _, _, hb4⟩ := hb4
      rw [z, upd_ne nb1.symm, hb4] at n2
      cases n2
    have s4 : Same H4 (upd (upd (upd (upd H4 p1 (.lst [])) p2 (.lst [])) t (.tup [.int (r1 - far), .int (r2 - far)])) u (.tup [.int (1 - 2 * r4), .ref p1, .ref p2, .ref t, .int r3])) := (((same_new n1).trans (same_new n2)).trans (same_new nt)).trans (same_new nu)
    have s2 : Same (upd (upd H4 p1 (.lst [])) p2 (.lst [])) (upd (upd (upd (upd H4 p1 (.lst [])) p2 (.lst [])) t (.tup [.int (r1 - far), .int (r2 - far)])) u (.tup [.int (1 - 2 * r4), .ref p1, .ref p2, .ref t, .int r3])) := (same_new nt).trans (same_new nu)
    have hp1 := s2 p1 (.lst []) (by rw [upd_ne n21.symm, upd_same])
    have hp2 := s2 p2 (.lst []) upd_same
    have hdt : DT K (upd (upd (upd (upd H4 p1 (.lst [])) p2 (.lst [])) t (.tup [.int (r1 - far), .int (r2 - far)])) u (.tup [.int (1 - 2 * r4), .ref p1, .ref p2, .ref t, .int r3])) (.ref t) (sq (r1 - far, r2 - far)) := (DT.new (K := K) (.cons (.int (r1 - far)) (.cons (.int (r2 - far)) .nil)) nt).up (tk_new nu)
    have hb5 : Box (upd (upd (upd (upd H4 p1 (.lst [])) p2 (.lst [])) t (.tup [.int (r1 - far), .int (r2 - far)])) u (.tup [.int (1 - 2 * r4), .ref p1, .ref p2, .ref t, .int r3])) b := by
      obtain ⟨i, s, c, hb4⟩ := hb4
      exact ⟨i, s, c, s4 _ _ hb4⟩
    have eb5 := (((e1.trans e2).trans e3).trans e4).trans (but_same (b := b) s4)
    generalize (upd (upd (upd (upd H4 p1 (.lst [])) p2 (.lst [])) t (.tup [.int (r1 - far), .int (r2 - far)])) u (.tup [.int (1 - 2 * r4), .ref p1, .ref p2, .ref t, .int r3])) = H5 at hp1 hp2 hdt hb5 eb5
    -- the loop
    refine ⟨.ref b, rfl, .int m, rfl, b, m, rfl, hb5, m0, by omega, fun r5 H6 a9 a10 e6 hb6 => ?_⟩
    have f1 : H p1 = none := by
      cases z : H p1 with
      | none => rfl
      | some o =>
        have := (((e1.trans e2).trans e3).trans e4) p1 o nb1 z
        rw [n1] at this
        cases this
    have f2 : H p2 = none := by
      cases z : H p2 with
      | none => rfl
      | some o =>
        have := (((e1.trans e2).trans e3).trans e4) p2 o nb2 z
        rw [upd_ne n21] at n2
        rw [n2] at this
        cases this
    refine ⟨1, r5, rfl, rfl, 1 + r5, rfl, by omega, by omega, for_range (lo := 0) (n := (1 + r5).toNat) (fun i σ H' => ∃ rs qs here ahead vh xs ys y11 y12 y13,
      σ = [some (.ref b), some (.int m), some (.int far), some (.int (r1 - far)), some (.int (r2 - far)), some (.int r3), some (.int (1 - 2 * r4)), some (.ref p1), some (.ref p2), some vh, some (.int ahead), y11, y12, y13] ∧
      EngInv K b p1 p2 H H' (r1 - far) (r2 - far) r3 i rs qs here ahead vh xs ys) ?_ (fun i σ H' hi hP => ?_) (fun σ H' hP => ?_)⟩
    · refine ⟨[], [], (r1 - far, r2 - far), r3, .ref t, [], [], none, none, none, rfl, ?_⟩
      exact ⟨e6.up hb5 hdt, e6 _ _ nb1 hp1, .nil, e6 _ _ nb2 hp2, .nil, hb6, eb5.trans e6, Nat.le_refl _, fun z => by omega, fun _ => rfl, rfl, List.nodup_nil, fun r hr => (by cases hr), rfl⟩
    · obtain ⟨rs, qs, here, ahead, vh, xs, ys, y11, y12, y13, rfl, I⟩ := hP
      have hi12 : i < 12 := by omega
      refine ⟨.ref b, rfl, b, 4, rfl, I.bx, by decide, by decide, fun k1 H7 g1 g2 e7 hb7 => ?_⟩
      obtain ⟨c4, hc4, hs4⟩ := pick4 g1 g2
      refine ⟨_, k1, c4, rfl, rfl, by decide, hc4, ?_⟩
      rw [hs4]
      refine ⟨.ref b, rfl, b, 10, rfl, hb7, by decide, by decide, fun k2 H8 g3 g4 e8 hb8 => ?_⟩
      refine ⟨_, _, rfl, ?_⟩
      have J := (I.but e7 hb7 nb1 nb2).but e8 hb8 nb1 nb2
      refine ⟨vh, rfl, .ref p2, rfl, sq here, qs.map sq, J.dh.dp, .lst (SqL.of J.h2) J.d2.dp, shaped_sq here, shaped_sqs qs, _, rfl, ?_⟩
      rw [any_sq]
      refine ite2 (fun e => ?_) (fun e => ?_)
      · have hm : ¬ here ∈ qs := fun z => by
          rw [decide_eq_true z] at e
          cases e
        have lx : xs.length ≤ 12 := by
          have h1 := J.d1.length
          rw [List.length_map] at h1
          have h2 := J.ln
          omega
        have ly : ys.length ≤ 12 := by
          have h1 := J.d2.length
          rw [List.length_map, J.lq] at h1
          have h2 := J.ln
          omega
        refine ⟨.ref p1, rfl, .inl ⟨rfl, _, SqL.of J.h1⟩, .str (shOf k1).str, rfl, .int k2, rfl, by show 2 ≤ sizeLine; decide, fun t9 n9 => ?_⟩
        have t1 : p1 ≠ t9 := ne_of_none J.h1 n9
        have t2 : p2 ≠ t9 := ne_of_none J.h2 n9
        refine ⟨p1, xs, .ref t9, rfl, rfl, by rw [upd_ne t1]; exact J.h1, small12 lx, ?_⟩
        have hq2 : (upd (upd H8 t9 (.tup [.str (shOf k1).str, .int k2])) p1 (.lst (xs ++ [.ref t9]))) p2 = some (.lst ys) := by
          rw [upd_ne n21, upd_ne t2]
          exact J.h2
        refine ⟨.ref p2, rfl, .inl ⟨rfl, _, SqL.of hq2⟩, vh, rfl, p2, ys, vh, rfl, rfl, hq2, small12 ly, ?_⟩
        refine ⟨.int ahead, rfl, .str (shOf k1).str, rfl, ahead, shOf k1, rfl, fun H9 s9 => ?_⟩
        have tk9 : Tk H8 H9 := ((((tk_new n9).trans (tk_set (by rw [upd_ne t1]; exact J.h1))).trans (tk_set hq2)).trans (tk_same s9))
        refine ⟨vh, rfl, .int (tn ahead (shOf k1)), rfl, vh, here, tn ahead (shOf k1), rfl, J.dh.up tk9, tn_lo _ _, tn_hi _ _, fun v2 H10 s10 d10 => ?_⟩
        exact ⟨_, _, _, _, _, _, _, _, _, _, rfl, J.go hm n9 nb1 nb2 n21 f1 f2 g3 (by omega) (s9.trans s10) d10⟩
      · have hm : here ∈ qs := by
          by_cases z : here ∈ qs
          · exact z
          · rw [decide_eq_false z] at e
            exact absurd rfl e
        exact ⟨_, _, _, _, _, _, _, _, _, _, rfl, J.skip hm⟩
    · obtain ⟨rs, qs, here, ahead, vh, xs, ys, y11, y12, y13, rfl, I⟩ := hP
      refine ⟨.int (r1 - far), rfl, .int (r2 - far), rfl, .int r3, rfl, .int (1 - 2 * r4), rfl, .ref p1, rfl, p1, xs, rfl, .inl ⟨SqL.of I.h1, fun l nl => ?_⟩⟩
      refine ⟨by show 5 ≤ sizeLine; decide, fun u nu => ?_⟩
      have hd := (DT.new I.d1 nl)
      have hd2 := DT.new (.cons (.int (r1 - far)) (.cons (.int (r2 - far)) (.cons (.int r3) (.cons (.int (1 - 2 * r4)) (.cons hd .nil))))) nu
      have sm := (same_new (o := HO.tup xs) nl).trans (same_new (o := HO.tup [.int (r1 - far), .int (r2 - far), .int r3, .int (1 - 2 * r4), .ref l]) nu)
      have hb9 := I.bx
      refine q _ _ _ _ _ _ rs ⟨a5, by omega, by omega, I.ne (by omega), ?_, I.col, ?_⟩ (by omega) (by omega) (by omega) (by omega) ?_ (I.bt.trans (but_same sm)) ?_ hd2
      · have := I.ln
        omega
      · rw [I.ws]
        dsimp only
        rw [List.dropLast_concat]
        exact I.nd
      · have := I.ln
        omega
      · obtain ⟨i, s, c, h0⟩ := hb9
        exact ⟨i, s, c, sm _ _ h0⟩
end
section
variable {P : Program} {w : World} {K : PySem.W.Frag} {mg : Str → Option Value} {base : Heap}
theorem ok_way_on (T : Txt K w mg) : FnOk P w K mg base CX0 1 T.f_way_on T.fd_way_on ["way", "shape"] spTurn := by
  refine T.F_way_on.ok sc_way_on (fun vs H Q E h => ?_) (fun cdv A outer s H vs Q E hr h => ?_)
  · obtain ⟨w, s, rfl, _⟩ := h
    rfl
  · obtain ⟨w, s, rfl, q⟩ := h
    refine ⟨_, (pss_one (ps_ret (pe_op op_mod (pe_op op_add (pv 0) (pe_ix ix_kdict (pe_glob (v := .ref T.a_TURNS) (by rfl) T.g_TURNS rfl) (pv 1) (fun _ _ => rfl))) pe_int))), ?_⟩
    exact ⟨.int w, rfl, .str s.str, rfl, T.a_TURNS, s.str, .int s.t, rfl, rfl, T.TURNS s, w, s.t, rfl, rfl, _, 4, rfl, rfl, by show (0 : Int) < 4; decide, q _ (Same.refl H)⟩
theorem ok_way_behind (T : Txt K w mg) : FnOk P w K mg base CX0 1 T.f_way_behind T.fd_way_behind ["way", "shape"] spBack := by
  refine T.F_way_behind.ok sc_way_behind (fun vs H Q E h => ?_) (fun cdv A outer s H vs Q E hr h => ?_)
  · obtain ⟨w, s, rfl, _⟩ := h
    rfl
  · obtain ⟨w, s, rfl, q⟩ := h
    refine ⟨_, (pss_one (ps_ret (pe_op op_mod (pe_op op_sub (pv 0) (pe_ix ix_kdict (pe_glob (v := .ref T.a_TURNS) (by rfl) T.g_TURNS rfl) (pv 1) (fun _ _ => rfl))) pe_int))), ?_⟩
    exact ⟨.int w, rfl, .str s.str, rfl, T.a_TURNS, s.str, .int s.t, rfl, rfl, T.TURNS s, w, s.t, rfl, rfl, _, 4, rfl, rfl, by show (0 : Int) < 4; decide, q _ (Same.refl H)⟩
theorem ok_way_about (T : Txt K w mg) : FnOk P w K mg base CX0 1 T.f_way_about T.fd_way_about ["way"] spAbout := by
  refine T.F_way_about.ok sc_way_about (fun vs H Q E h => ?_) (fun cdv A outer s H vs Q E hr h => ?_)
  · obtain ⟨w, rfl, _⟩ := h
    rfl
  · obtain ⟨w, rfl, q⟩ := h
    refine ⟨_, (pss_one (ps_ret (pe_op op_mod (pe_op op_add (pv 0) pe_int) pe_int))), ?_⟩
    exact ⟨.int w, rfl, w, 2, rfl, rfl, _, 4, rfl, rfl, by show (0 : Int) < 4; decide, q⟩
theorem ok_onward (T : Txt K w mg) : FnOk P w K mg base CX0 1 T.f_onward T.fd_onward ["square", "way", "steps"] (spOnward K) := by
  refine FunD_ok0 T.F_onward sc_onward (fun vs H Q E h => ?_) (fun cdv A outer s H vs Q E hr h => ?_)
  · obtain ⟨v, p, w, n, rfl, _⟩ := h
    rfl
  · obtain ⟨v, p, w, n, rfl, hd, w0, w3, q⟩ := h
    obtain ⟨a, rfl, hs⟩ := sq_at hd
    obtain ⟨aS, xS, eS, hsS, dS⟩ := (T.STEPS H).tupOf
    cases eS
    obtain ⟨b, hb, hbs⟩ := step_at dS w0 w3
    refine ⟨_, (pss_cons (ps_asg (pv 0) (pg_tup (n := 2) rfl (pgs_cons (pg_name (i := 3) sc_onward.nd rfl (.inl rfl)) (pgs_cons (pg_name (i := 4) sc_onward.nd rfl (.inl rfl)) pgs_nil))))
 (pss_cons (ps_asg (pe_ix ix_tup (pe_glob (v := .ref T.a_STEPS) (by rfl) T.g_STEPS rfl) (pv 1) (fun _ _ => rfl)) (pg_tup (n := 2) rfl (pgs_cons (pg_name (i := 5) sc_onward.nd rfl (.inl rfl)) (pgs_cons (pg_name (i := 6) sc_onward.nd rfl (.inl rfl)) pgs_nil))))
 (pss_one (ps_ret (pe_tup (pa_cons (pe_op op_add (pv 3) (pe_op op_mul (pv 5) (pv 2))) (pa_cons (pe_op op_add (pv 4) (pe_op op_mul (pv 6) (pv 2))) pa_nil))))))), ?_⟩
    refine ⟨.ref a, rfl, a, _, rfl, hs, rfl, _, _, rfl, _, _, rfl, rfl, ?_⟩
    refine ⟨.int w, rfl, _, _, w, .ref b, rfl, rfl, hsS, hb, b, _, rfl, hbs, rfl, _, _, rfl, _, _, rfl, rfl, ?_⟩
    refine ⟨.int p.1, rfl, .int (dx w), rfl, .int n, rfl, dx w, n, rfl, rfl, dx_ok w n, p.1, _, rfl, rfl, .int p.2, rfl, .int (dy w), rfl, .int n, rfl, dy w, n, rfl, rfl, dy_ok w n, p.2, _, rfl, rfl, by show 2 ≤ sizeLine; decide, fun t nt => ?_⟩
    exact q _ _ (same_new nt) (DT.new (.cons (.int _) (.cons (.int _) .nil)) nt)
end
section
variable {P : Program} {w : World} {K : PySem.W.Frag} {mg : Str → Option Value} {base : Heap}
theorem ok_walk (T : Txt K w mg) : FnOk P w K mg base CX0 2 T.f_walk T.fd_walk ["engine", "many"] (spD K fWalk) := by
  refine T.F_walk.ok sc_walk (fun vs H Q E h => ?_) (fun cdv A outer s H vs Q E hr h => ?_)
  · obtain ⟨ds, A, rv, _, x, y, w, look, rs, n, rfl, _⟩ := h
    exact RVs.length rv
  · refine ⟨_, (pss_cons (ps_asg (pv 0) (pg_tup (n := 5) rfl (pgs_cons (pg_name (i := 2) sc_walk.nd rfl (.inl rfl)) (pgs_cons (pg_name (i := 3) sc_walk.nd rfl (.inl rfl)) (pgs_cons (pg_name (i := 4) sc_walk.nd rfl (.inl rfl)) (pgs_cons (pg_name (i := 5) sc_walk.nd rfl (.inl rfl)) (pgs_cons (pg_name (i := 6) sc_walk.nd rfl (.inl rfl)) pgs_nil)))))))
 (pss_cons (ps_set (i := 7) sc_walk.nd rfl (.inl rfl) (pe_tup (pa_cons (pv 2) (pa_cons (pv 3) pa_nil))))
 (pss_cons (ps_set (i := 8) sc_walk.nd rfl (.inl rfl) (pe_lst pa_nil))
 (pss_cons (ps_for PassesOwn.never rfl (pi_range1 (by rfl) T.m_range (pa_cons (pv 1) pa_nil)) (pg_name (i := 9) sc_walk.nd rfl (.inl rfl))
 (pss_cons (ps_expr (pe_bm PySem.F.plainAttrs_list PySem.F.slot_list_append PySem.F.type_list_append mt_append (pv 8) (pa_cons (pe_tup (pa_cons (pv 7) (pa_cons (pv 4) pa_nil))) pa_nil)))
 (pss_cons (ps_asg (pe_ix ix_tup (pv 6) (pe_op op_mod (pv 9) (pe_callB call_len_seq (by rfl) T.m_len (by decide +kernel) (pa_cons (pv 6) pa_nil))) (fun _ _ => rfl)) (pg_tup (n := 2) rfl (pgs_cons (pg_name (i := 10) sc_walk.nd rfl (.inl rfl)) (pgs_cons (pg_name (i := 11) sc_walk.nd rfl (.inl rfl)) pgs_nil))))
 (pss_cons (ps_set (i := 4) sc_walk.nd rfl (.inl rfl) (pe_call (ok_way_on T) (hr.mono (by decide)) (by rfl) T.g_way_on T.F_way_on.kp T.b_way_on .nil pass0 (pa_cons (pv 4) (pa_cons (pv 10) pa_nil))))
 (pss_one (ps_set (i := 7) sc_walk.nd rfl (.inl rfl) (pe_call (ok_onward T) (hr.mono (by decide)) (by rfl) T.g_onward T.F_onward.kp T.b_onward T.v_onward pass0 (pa_cons (pv 7) (pa_cons (pv 4) pa_nil)))))))))
 (pss_one (ps_ret (pv 8))))))), ?_⟩
    dsimp only [cxOf, Cx.nox]
    refine body_D h fun H0 ds A Q hφ => ?_
    obtain ⟨x, y, w, look, rs, n, rfl, rfl, ne, hn, q⟩ := hφ
    walk_at "dw"
    rename_i p
    refine ws_for ?_
    walk_at "dw"
    refine ⟨_, rfl, by omega, by omega, (fun i ρ A => ∃ y9 y10 y11, ρ = [some (.dat (eng x y w look rs)), some (.int n), some (.int x), some (.int y), some (.int (rd x y w rs i).2), some (.int look), some (.dat (.tuple (rs.map rail))), some (.dat (sq (rd x y w rs i).1)), some (.ref p), y9, y10, y11] ∧
      A = [(p, .lst (dats ((List.range i).map fun k => pdat (rd x y w rs k))))]), ⟨none, none, none, rfl, rfl⟩, fun _ _ _ _ _ => trivial, ?_, ?_⟩
    · rintro i ρ A hi ⟨y9, y10, y11, rfl, rfl⟩
      walk_at "dw"
      refine ⟨0, _, _, rfl, rfl, ?_, ?_⟩
      · rw [dats, List.length_map, List.length_map, List.length_range]
        omega
      walk_at "dw"
      have ne := ne (by omega)
      refine rw_Ii (by rw [List.length_map]; have := List.length_pos_iff.mpr ne; omega) ?_
      refine rw_ixT (rail_ix ne i) ?_
      walk_at "dw"
      refine we_call (ds := [.int 1]) (fun _ => .cons (.int 1) .nil) ?_
      walk_at "dw"
      refine rs_onward1 (tn_lo _ _) (tn_hi _ _) ?_
      walk_at "dw"
      refine ⟨_, _, _, rfl, ?_⟩
      rw [List.range_succ, List.map_append]
      show [(p, Cell.lst (dats _ ++ [_]))] = _
      rw [dats, dats, List.map_append]
      rfl
    · rintro ρ A ⟨y9, y10, y11, rfl, rfl⟩
      rw [Int.toNat_natCast]
      walk_at "dw"
      exact ⟨_, List.Sublist.refl _, q p⟩
theorem ok_squares_of (T : Txt K w mg) : FnOk P w K mg base CX0 3 T.f_squares_of T.fd_squares_of ["engine"] (spSquares K) := by
  have key : FnOk P w K mg base CX0 3 T.f_squares_of T.fd_squares_of ["engine"] (spD K fun ds A Q => ∃ (x y w look : Int) (rs : List (Sh × Int)), ds = [.dat (eng x y w look rs)] ∧ A = [] ∧ rs.length ≤ 900 ∧ Q (.dat (.tuple ((wst x y w rs).1.dropLast.map sq))) []) := by
    refine T.F_squares_of.ok sc_squares_of (fun vs H Q E h => ?_) (fun cdv A outer s H vs Q E hr h => ?_)
    · obtain ⟨ds, A, rv, _, x, y, w, look, rs, rfl, _⟩ := h
      exact RVs.length rv
    · refine ⟨_, (pss_cons (ps_asg (pv 0) (pg_tup (n := 5) rfl (pgs_cons (pg_name (i := 1) sc_squares_of.nd rfl (.inl rfl)) (pgs_cons (pg_name (i := 2) sc_squares_of.nd rfl (.inl rfl)) (pgs_cons (pg_name (i := 3) sc_squares_of.nd rfl (.inl rfl)) (pgs_cons (pg_name (i := 4) sc_squares_of.nd rfl (.inl rfl)) (pgs_cons (pg_name (i := 5) sc_squares_of.nd rfl (.inl rfl)) pgs_nil)))))))
 (pss_one (ps_ret (pe_callTy call_tuple_of (by rfl) T.m_tuple (by decide +kernel) (pa_cons (pe_lc (own := [("square", 6), ("onto", 7)]) (g := gTup K 2 (gCons (gName 6) (gCons (gName 7) gNil))) (by rfl) sc_squares_of.nd (pi_list (pe_call (ok_walk T) (hr.mono (by decide)) (by rfl) T.g_walk T.F_walk.kp T.b_walk .nil pass0 (pa_cons (pv 0) (pa_cons (pe_callB call_len_seq (by rfl) T.m_len (by decide +kernel) (pa_cons (pv 5) pa_nil)) pa_nil)))) (blkOk_by (own := [("square", 6), ("onto", 7)]) (N := N_squares_of) (sc := defScope s_squares_of) (by decide +kernel)) (fun _ _ _ _ _ => pg_tup (n := 2) rfl (pgs_cons (pg_name (i := 6) sc_squares_of.nd rfl (.inl rfl) (.inr rfl)) (pgs_cons (pg_name (i := 7) sc_squares_of.nd rfl (.inl rfl) (.inr rfl)) pgs_nil))) (fun _ _ _ _ _ => pts_nil) (fun _ _ _ _ _ => (pv 6))) pa_nil))))), ?_⟩
      dsimp only [cxOf, Cx.nox]
      refine body_D h fun H0 ds A Q hφ => ?_
      obtain ⟨x, y, w, look, rs, rfl, rfl, hl, q⟩ := hφ
      walk_at "dw"
      refine we_lcP (own_tup (own_cons (own_name (by decide)) (own_cons (own_name (by decide)) own_nil))) ?_
      walk_at "dw"
      rw [List.length_map]
      refine rs_walk (fun h0 z => by rw [z] at h0; exact h0 rfl) (by omega) fun p => ?_
      refine ⟨p, _, rfl, .head _, fun i => .dat (sq (rd x y w rs i).1), ?_, .head _, fun i hi H1 X1 => ?_, fun p2 => ?_⟩
      · simp [dats]; omega
      · have hi' : i < rs.length := by simpa [dats] using hi
        dsimp only
        rw [dats_getD (by simpa [dats] using hi), getD_range hi']
        walk_at "dw"
        exact ⟨rfl, rfl⟩
      · walk_at "dw"
        refine rl_tupL (n := 0) (ds := (wst x y w rs).1.dropLast.map sq) ?_ ⟨[], List.nil_sublist _, q⟩
        rw [OR.wst_drop, List.map_map]
        simp [dats]
  refine key.imp fun vs H Q E ⟨v, x, y, w, look, rs, e1, hd, hl, q⟩ => ?_
  subst e1
  exact sp_of_pure (ds := [eng x y w look rs]) (.cons hd .nil) (fun Q' q' => ⟨x, y, w, look, rs, rfl, rfl, hl, q'⟩) q
end
section
variable {P : Program} {w : World} {K : PySem.W.Frag} {mg : Str → Option Value} {base : Heap}
theorem ok_gone_forward (T : Txt K w mg) : FnOk P w K mg base CX0 2 T.f_gone_forward T.fd_gone_forward ["engine"] (spFwd K) := by
  refine T.F_gone_forward.ok sc_gone_forward (fun vs H Q E h => ?_) (fun cdv A outer s H vs Q E hr h => ?_)
  · obtain ⟨v, x, y, w, look, r, rest, rfl, _⟩ := h
    rfl
  · obtain ⟨v, x, y, w, look, r, rest, rfl, hd, hl, q⟩ := h
    obtain ⟨a, ra, xr, rfl, hs, hr1, hr2⟩ := eng_at hd
    obtain ⟨v0, hv0, d0⟩ := hr2.at (i := 0) (d := rail r) (atI_nat (j := 0) rfl)
    obtain ⟨a0, rfl, h0⟩ := rail_at d0
    refine ⟨_, (pss_cons (ps_asg (pv 0) (pg_tup (n := 5) rfl (pgs_cons (pg_name (i := 1) sc_gone_forward.nd rfl (.inl rfl)) (pgs_cons (pg_name (i := 2) sc_gone_forward.nd rfl (.inl rfl)) (pgs_cons (pg_name (i := 3) sc_gone_forward.nd rfl (.inl rfl)) (pgs_cons (pg_name (i := 4) sc_gone_forward.nd rfl (.inl rfl)) (pgs_cons (pg_name (i := 5) sc_gone_forward.nd rfl (.inl rfl)) pgs_nil)))))))
 (pss_cons (ps_asg (pe_ix ix_tup (pv 5) pe_int (fun _ _ => rfl)) (pg_tup (n := 2) rfl (pgs_cons (pg_name (i := 6) sc_gone_forward.nd rfl (.inl rfl)) (pgs_cons (pg_name (i := 7) sc_gone_forward.nd rfl (.inl rfl)) pgs_nil))))
 (pss_cons (ps_set (i := 8) sc_gone_forward.nd rfl (.inl rfl) (pe_call (ok_way_on T) (hr.mono (by decide)) (by rfl) T.g_way_on T.F_way_on.kp T.b_way_on .nil pass0 (pa_cons (pv 3) (pa_cons (pv 6) pa_nil))))
 (pss_cons (ps_asg (pe_call (ok_onward T) (hr.mono (by decide)) (by rfl) T.g_onward T.F_onward.kp T.b_onward T.v_onward pass0 (pa_cons (pe_tup (pa_cons (pv 1) (pa_cons (pv 2) pa_nil))) (pa_cons (pv 8) pa_nil))) (pg_tup (n := 2) rfl (pgs_cons (pg_name (i := 9) sc_gone_forward.nd rfl (.inl rfl)) (pgs_cons (pg_name (i := 10) sc_gone_forward.nd rfl (.inl rfl)) pgs_nil))))
 (pss_one (ps_ret (pe_tup (pa_cons (pv 9) (pa_cons (pv 10) (pa_cons (pv 8) (pa_cons (pv 4) (pa_cons (pe_op op_catA (pe_slice sl_tupA (pv 5) (po_some pe_int) po_none) (pe_slice sl_tupA (pv 5) po_none (po_some pe_int))) pa_nil)))))))))))), ?_⟩
    refine ⟨.ref a, rfl, a, _, rfl, hs, rfl, _, _, rfl, _, _, rfl, _, _, rfl, _, _, rfl, _, _, rfl, rfl, ?_⟩
    refine ⟨.ref ra, rfl, ra, xr, 0, .ref a0, rfl, rfl, hr1, hv0, a0, _, rfl, h0, rfl, _, _, rfl, _, _, rfl, rfl, ?_⟩
    refine ⟨.int w, rfl, .str r.1.str, rfl, w, r.1, rfl, fun H1 s1 => ?_⟩
    refine ⟨.int x, rfl, .int y, rfl, by show 2 ≤ sizeLine; decide, fun t nt => ?_⟩
    refine ⟨.int (tn w r.1), rfl, .ref t, (x, y), tn w r.1, 1, rfl, DT.new (.cons (.int x) (.cons (.int y) .nil)) nt, tn_lo _ _, tn_hi _ _, fun v2 H2 s2 d2 => ?_⟩
    rw [on_one] at d2
    obtain ⟨a2, rfl, h2⟩ := sq_at d2
    refine ⟨a2, _, rfl, h2, rfl, _, _, rfl, _, _, rfl, rfl, ?_⟩
    have s12 := (s1.trans (same_new nt)).trans s2
    have dr : DT K H2 (.ref ra) (.tuple (rail r :: rest.map rail)) := (DT.tup hr1 hr2).up (tk_same s12)
    refine ⟨_, rfl, _, rfl, _, rfl, _, rfl, .ref ra, rfl, 1, rfl, r_np (r_slA dr fun v3 H3 s3 d3 => ?_)⟩
    rw [cut_1n] at d3
    refine ⟨.ref ra, rfl, 1, rfl, r_slA (dr.up (tk_same s3)) fun v4 H4 s4 d4 => ?_⟩
    rw [cut_n1] at d4
    refine r_catA (d3.up (tk_same s4)) d4 (by rw [List.length_map]; show rest.length + 1 ≤ 1000; omega) fun v5 H5 s5 d5 => ⟨by show 5 ≤ sizeLine; decide, fun p np => ?_⟩
    refine q _ _ (((s12.trans s3).trans (s4.trans s5)).trans (same_new np)) ?_
    have d5' : DT K H5 v5 (.tuple ((rest ++ [r]).map rail)) := by
      rw [List.map_append]
      exact d5
    exact DT.new (.cons (.int _) (.cons (.int _) (.cons (.int _) (.cons (.int _) (.cons d5' .nil))))) np
theorem ok_gone_back (T : Txt K w mg) : FnOk P w K mg base CX0 2 T.f_gone_back T.fd_gone_back ["engine"] (spBwd K) := by
  refine T.F_gone_back.ok sc_gone_back (fun vs H Q E h => ?_) (fun cdv A outer s H vs Q E hr h => ?_)
  · obtain ⟨v, x, y, w, look, r, init, rfl, _⟩ := h
    rfl
  · obtain ⟨v, x, y, w, look, r, init, rfl, hd, hl, q⟩ := h
    obtain ⟨a, ra, xr, rfl, hs, hr1, hr2⟩ := eng_at hd
    rw [List.map_append] at hr2
    obtain ⟨us, u, rfl, hus, hu⟩ := hr2.last
    obtain ⟨a0, rfl, h0⟩ := rail_at hu
    refine ⟨_, (pss_cons (ps_asg (pv 0) (pg_tup (n := 5) rfl (pgs_cons (pg_name (i := 1) sc_gone_back.nd rfl (.inl rfl)) (pgs_cons (pg_name (i := 2) sc_gone_back.nd rfl (.inl rfl)) (pgs_cons (pg_name (i := 3) sc_gone_back.nd rfl (.inl rfl)) (pgs_cons (pg_name (i := 4) sc_gone_back.nd rfl (.inl rfl)) (pgs_cons (pg_name (i := 5) sc_gone_back.nd rfl (.inl rfl)) pgs_nil)))))))
 (pss_cons (ps_asg (pe_ix ix_tup (pv 5) (pe_un un_neg pe_int) (fun _ _ => rfl)) (pg_tup (n := 2) rfl (pgs_cons (pg_name (i := 6) sc_gone_back.nd rfl (.inl rfl)) (pgs_cons (pg_name (i := 7) sc_gone_back.nd rfl (.inl rfl)) pgs_nil))))
 (pss_cons (ps_asg (pe_call (ok_onward T) (hr.mono (by decide)) (by rfl) T.g_onward T.F_onward.kp T.b_onward T.v_onward pass0 (pa_cons (pe_tup (pa_cons (pv 1) (pa_cons (pv 2) pa_nil))) (pa_cons (pe_call (ok_way_about T) (hr.mono (by decide)) (by rfl) T.g_way_about T.F_way_about.kp T.b_way_about .nil pass0 (pa_cons (pv 3) pa_nil)) pa_nil))) (pg_tup (n := 2) rfl (pgs_cons (pg_name (i := 8) sc_gone_back.nd rfl (.inl rfl)) (pgs_cons (pg_name (i := 9) sc_gone_back.nd rfl (.inl rfl)) pgs_nil))))
 (pss_one (ps_ret (pe_tup (pa_cons (pv 8) (pa_cons (pv 9) (pa_cons (pe_call (ok_way_behind T) (hr.mono (by decide)) (by rfl) T.g_way_behind T.F_way_behind.kp T.b_way_behind .nil pass0 (pa_cons (pv 3) (pa_cons (pv 6) pa_nil))) (pa_cons (pv 4) (pa_cons (pe_op op_catA (pe_slice sl_tupA (pv 5) (po_some (pe_un un_neg pe_int)) po_none) (pe_slice sl_tupA (pv 5) po_none (po_some (pe_un un_neg pe_int)))) pa_nil))))))))))), ?_⟩
    refine ⟨.ref a, rfl, a, _, rfl, hs, rfl, _, _, rfl, _, _, rfl, _, _, rfl, _, _, rfl, _, _, rfl, rfl, ?_⟩
    refine ⟨.ref ra, rfl, 1, rfl, ra, _, -1, .ref a0, rfl, rfl, hr1, atI_last us _, a0, _, rfl, h0, rfl, _, _, rfl, _, _, rfl, rfl, ?_⟩
    refine ⟨.int x, rfl, .int y, rfl, by show 2 ≤ sizeLine; decide, fun t nt => ?_⟩
    have m4 := mod_in (a := w + 2) (m := 4) (by decide)
    refine ⟨.int w, rfl, w, rfl, .ref t, (x, y), (w + 2) % 4, 1, rfl, DT.new (.cons (.int x) (.cons (.int y) .nil)) nt, m4.1, by omega, fun v2 H2 s2 d2 => ?_⟩
    rw [on_one] at d2
    obtain ⟨a2, rfl, h2⟩ := sq_at d2
    refine ⟨a2, _, rfl, h2, rfl, _, _, rfl, _, _, rfl, rfl, ?_⟩
    refine ⟨_, rfl, _, rfl, .int w, rfl, .str r.1.str, rfl, w, r.1, rfl, fun H3 s3 => ?_⟩
    have s13 := ((same_new nt).trans s2).trans s3
    have dr : DT K H3 (.ref ra) (.tuple (init.map rail ++ [rail r])) := (DT.tup hr1 hr2).up (tk_same s13)
    refine ⟨_, rfl, .ref ra, rfl, 1, rfl, -1, rfl, r_np (r_slA dr fun v4 H4 s4 d4 => ?_)⟩
    rw [cut_l1] at d4
    refine ⟨.ref ra, rfl, 1, rfl, -1, rfl, r_slA (dr.up (tk_same s4)) fun v5 H5 s5 d5 => ?_⟩
    rw [cut_i1] at d5
    refine r_catA (d4.up (tk_same s5)) d5 (by rw [List.length_map]; show 1 + init.length ≤ 1000; omega) fun v6 H6 s6 d6 => ⟨by show 5 ≤ sizeLine; decide, fun p np => ?_⟩
    refine q _ _ (((s13.trans s4).trans (s5.trans s6)).trans (same_new np)) ?_
    exact DT.new (.cons (.int _) (.cons (.int _) (.cons (.int _) (.cons (.int _) (.cons d6 .nil))))) np
theorem ok_gone_on (T : Txt K w mg) : FnOk P w K mg base CX0 3 T.f_gone_on T.fd_gone_on ["engine"] (spGone K) := by
  refine T.F_gone_on.ok sc_gone_on (fun vs H Q E h => ?_) (fun cdv A outer s H vs Q E hr h => ?_)
  · obtain ⟨v, x, y, w, look, rs, rfl, _⟩ := h
    rfl
  · obtain ⟨v, x, y, w, look, rs, rfl, hd, hne, hl, q⟩ := h
    obtain ⟨a, ra, xr, rfl, hs, hr1, hr2⟩ := eng_at hd
    refine ⟨_, (pss_cons (ps_asg (pv 0) (pg_tup (n := 5) rfl (pgs_cons (pg_name (i := 1) sc_gone_on.nd rfl (.inl rfl)) (pgs_cons (pg_name (i := 2) sc_gone_on.nd rfl (.inl rfl)) (pgs_cons (pg_name (i := 3) sc_gone_on.nd rfl (.inl rfl)) (pgs_cons (pg_name (i := 4) sc_gone_on.nd rfl (.inl rfl)) (pgs_cons (pg_name (i := 5) sc_gone_on.nd rfl (.inl rfl)) pgs_nil)))))))
 (pss_cons (ps_if (pt_cmpR op_eq (pv 4) pe_int (nomark _))
 (pss_one (ps_ret (pe_call (ok_gone_forward T) (hr.mono (by decide)) (by rfl) T.g_gone_forward T.F_gone_forward.kp T.b_gone_forward .nil pass0 (pa_cons (pv 0) pa_nil))))
 pss_nil)
 (pss_one (ps_ret (pe_call (ok_gone_back T) (hr.mono (by decide)) (by rfl) T.g_gone_back T.F_gone_back.kp T.b_gone_back .nil pass0 (pa_cons (pv 0) pa_nil)))))), ?_⟩
    refine ⟨.ref a, rfl, a, _, rfl, hs, rfl, _, _, rfl, _, _, rfl, _, _, rfl, _, _, rfl, _, _, rfl, rfl, ?_⟩
    refine ⟨.int look, rfl, rfl, _, rfl, ite2 (fun e => ?_) (fun e => ?_)⟩
    · have el : look = 1 := V.int.inj (of_decide_eq_true e)
      obtain ⟨r, rest, rfl⟩ : ∃ r rest, rs = r :: rest := by
        cases rs with
        | nil => exact absurd rfl hne
        | cons r rest => exact ⟨r, rest, rfl⟩
      refine ⟨.ref a, rfl, .ref a, x, y, w, look, r, rest, rfl, hd, by rw [List.length_cons] at hl; omega, fun v' H' s' d' => q v' H' s' (fun r2 rest2 e2 _ => ?_) (fun _ _ _ z => absurd el z)⟩
      cases e2
      exact d'
    · have el : ¬ look = 1 := fun z => e (by rw [z]; exact decide_eq_true rfl)
      obtain ⟨init, r, rfl⟩ : ∃ init r, rs = init ++ [r] := by
        rcases List.eq_nil_or_concat rs with h | ⟨init, r, h⟩
        · exact absurd h hne
        · exact ⟨init, r, by rw [← List.concat_eq_append]; exact h⟩
      refine ⟨.ref a, rfl, .ref a, x, y, w, look, r, init, rfl, hd, by rw [List.length_append] at hl; omega, fun v' H' s' d' => q v' H' s' (fun _ _ _ z => absurd z el) (fun init2 r2 e2 _ => ?_)⟩
      obtain ⟨e3, e4⟩ := List.append_inj' e2 rfl
      cases e4
      rw [← e3]
      exact d'
theorem ok_turned_by_hand (T : Txt K w mg) : FnOk P w K mg base CX0 1 T.f_turned_by_hand T.fd_turned_by_hand ["engine"] (spHand K) := by
  refine T.F_turned_by_hand.ok sc_turned_by_hand (fun vs H Q E h => ?_) (fun cdv A outer s H vs Q E hr h => ?_)
  · obtain ⟨v, x, y, w, look, rs, rfl, _⟩ := h
    rfl
  · obtain ⟨v, x, y, w, look, rs, rfl, hd, q⟩ := h
    obtain ⟨a, ra, xr, rfl, hs, hr1, hr2⟩ := eng_at hd
    refine ⟨_, (pss_cons (ps_asg (pv 0) (pg_tup (n := 5) rfl (pgs_cons (pg_name (i := 1) sc_turned_by_hand.nd rfl (.inl rfl)) (pgs_cons (pg_name (i := 2) sc_turned_by_hand.nd rfl (.inl rfl)) (pgs_cons (pg_name (i := 3) sc_turned_by_hand.nd rfl (.inl rfl)) (pgs_cons (pg_name (i := 4) sc_turned_by_hand.nd rfl (.inl rfl)) (pgs_cons (pg_name (i := 5) sc_turned_by_hand.nd rfl (.inl rfl)) pgs_nil)))))))
 (pss_one (ps_ret (pe_tup (pa_cons (pv 1) (pa_cons (pv 2) (pa_cons (pv 3) (pa_cons (pe_un un_neg (pv 4)) (pa_cons (pv 5) pa_nil))))))))), ?_⟩
    refine ⟨.ref a, rfl, a, _, rfl, hs, rfl, _, _, rfl, _, _, rfl, _, _, rfl, _, _, rfl, _, _, rfl, rfl, ?_⟩
    refine ⟨_, rfl, _, rfl, _, rfl, .int look, rfl, look, rfl, .ref ra, rfl, by show 5 ≤ sizeLine; decide, fun p np => ?_⟩
    exact q _ _ (same_new np) (DT.new (.cons (.int _) (.cons (.int _) (.cons (.int _) (.cons (.int _) (.cons (.tup hr1 hr2) .nil))))) np)
end
/-! ### the road's places, by all whole numbers -/
abbrev Pl := (Int × Int) × Int
def fw (p : Pl) (s : Sh) : Pl := (on p.1 (tn p.2 s), tn p.2 s)
def bw (p : Pl) (s : Sh) : Pl := (on p.1 ((p.2 + 2) % 4), tb p.2 s)
theorem on_about (q : Int × Int) {w : Int} (w0 : 0 ≤ w) (w3 : w ≤ 3) : on (on q ((w + 2) % 4)) w = q := by
  obtain ⟨x, y⟩ := q
  rcases way4 w0 w3 with rfl | rfl | rfl | rfl
  · simp [on, dx, dy]
    omega
  · simp [on, dx, dy]
    omega
  · simp [on, dx, dy]
    omega
  · simp [on, dx, dy]
    omega
theorem on_about2 (q : Int × Int) {w : Int} (w0 : 0 ≤ w) (w3 : w ≤ 3) : on (on q w) ((w + 2) % 4) = q := by
  obtain ⟨x, y⟩ := q
  rcases way4 w0 w3 with rfl | rfl | rfl | rfl
  · simp [on, dx, dy]
    omega
  · simp [on, dx, dy]
    omega
  · simp [on, dx, dy]
    omega
  · simp [on, dx, dy]
    omega
theorem tn_tb {w : Int} (w0 : 0 ≤ w) (w3 : w ≤ 3) (s : Sh) : tn (tb w s) s = w := by
  rcases way4 w0 w3 with rfl | rfl | rfl | rfl <;> cases s <;> decide
theorem tb_tn' {w : Int} (w0 : 0 ≤ w) (w3 : w ≤ 3) (s : Sh) : tb (tn w s) s = w := by
  rcases way4 w0 w3 with rfl | rfl | rfl | rfl <;> cases s <;> decide
theorem fw_bw {p : Pl} (w0 : 0 ≤ p.2) (w3 : p.2 ≤ 3) (s : Sh) : fw (bw p s) s = p := by
  obtain ⟨q, w⟩ := p
  show (on (on q ((w + 2) % 4)) (tn (tb w s) s), tn (tb w s) s) = (q, w)
  rw [tn_tb w0 w3, on_about q w0 w3]
theorem bw_fw {p : Pl} (w0 : 0 ≤ p.2) (w3 : p.2 ≤ 3) (s : Sh) : bw (fw p s) s = p := by
  obtain ⟨q, w⟩ := p
  show (on (on q (tn w s)) ((tn w s + 2) % 4), tb (tn w s) s) = (q, w)
  rw [tb_tn' w0 w3, on_about2 q (tn_lo _ _) (tn_hi _ _)]
def shp (rs : List (Sh × Int)) (i : Int) : Sh × Int := rs.getD (i % (rs.length : Int)).toNat (.s, 0)
def upF (rs : List (Sh × Int)) (p : Pl) : Nat → Pl
  | 0 => p
  | n + 1 => fw (upF rs p n) (shp rs n).1
def dnF (rs : List (Sh × Int)) (p : Pl) : Nat → Pl
  | 0 => p
  | n + 1 => bw (dnF rs p n) (shp rs (-(n : Int) - 1)).1
def pl (rs : List (Sh × Int)) (p : Pl) (i : Int) : Pl := if 0 ≤ i then upF rs p i.toNat else dnF rs p (-i).toNat
theorem upF_way (rs : List (Sh × Int)) {p : Pl} (w0 : 0 ≤ p.2) (w3 : p.2 ≤ 3) : ∀ n, 0 ≤ (upF rs p n).2 ∧ (upF rs p n).2 ≤ 3
  | 0 => ⟨w0, w3⟩
  | n + 1 => ⟨tn_lo _ _, tn_hi _ _⟩
theorem dnF_way (rs : List (Sh × Int)) {p : Pl} (w0 : 0 ≤ p.2) (w3 : p.2 ≤ 3) : ∀ n, 0 ≤ (dnF rs p n).2 ∧ (dnF rs p n).2 ≤ 3
  | 0 => ⟨w0, w3⟩
  | n + 1 => ⟨tb_lo _ _, tb_hi _ _⟩
theorem pl_way (rs : List (Sh × Int)) {p : Pl} (w0 : 0 ≤ p.2) (w3 : p.2 ≤ 3) (i : Int) : 0 ≤ (pl rs p i).2 ∧ (pl rs p i).2 ≤ 3 := by
  unfold pl
  split
  · exact upF_way rs w0 w3 _
  · exact dnF_way rs w0 w3 _
theorem pl_nat (rs : List (Sh × Int)) (p : Pl) (n : Nat) : pl rs p (n : Int) = upF rs p n := by
  unfold pl
  rw [if_pos (by omega), Int.toNat_natCast]
theorem pl_neg (rs : List (Sh × Int)) (p : Pl) (n : Nat) : pl rs p (-(n : Int)) = dnF rs p n := by
  unfold pl
  by_cases h : n = 0
  · subst h
    rw [if_pos (by decide)]
    rfl
  · rw [if_neg (by omega), Int.neg_neg, Int.toNat_natCast]
theorem pl_step (rs : List (Sh × Int)) {p : Pl} (w0 : 0 ≤ p.2) (w3 : p.2 ≤ 3) (i : Int) : pl rs p (i + 1) = fw (pl rs p i) (shp rs i).1 := by
  by_cases h : 0 ≤ i
  · obtain ⟨n, rfl⟩ := Int.eq_ofNat_of_zero_le h
    have e : ((n : Int) + 1) = ((n + 1 : Nat) : Int) := by omega
    rw [e, pl_nat, pl_nat]
    rfl
  · obtain ⟨n, hn⟩ : ∃ n : Nat, i = -((n + 1 : Nat) : Int) := ⟨(-i - 1).toNat, by omega⟩
    subst hn
    have e : -((n + 1 : Nat) : Int) + 1 = -((n : Nat) : Int) := by omega
    rw [e, pl_neg, pl_neg]
    show dnF rs p n = fw (bw (dnF rs p n) (shp rs (-(n : Int) - 1)).1) (shp rs (-((n + 1 : Nat) : Int))).1
    have e2 : -((n + 1 : Nat) : Int) = -(n : Int) - 1 := by omega
    rw [e2, fw_bw (dnF_way rs w0 w3 n).1 (dnF_way rs w0 w3 n).2]
theorem pl_back (rs : List (Sh × Int)) {p : Pl} (w0 : 0 ≤ p.2) (w3 : p.2 ≤ 3) (i : Int) : pl rs p (i - 1) = bw (pl rs p i) (shp rs (i - 1)).1 := by
  have h := pl_step rs w0 w3 (i - 1)
  rw [show i - 1 + 1 = i by omega] at h
  have hw := pl_way rs w0 w3 (i - 1)
  rw [h, bw_fw hw.1 hw.2]
theorem shp_add (rs : List (Sh × Int)) (i : Int) : shp rs (i + (rs.length : Int)) = shp rs i := by
  unfold shp
  rw [Int.add_emod_right]
theorem shp_nat (rs : List (Sh × Int)) {k : Nat} (h : k < rs.length) : shp rs (k : Int) = rs[k] := by
  unfold shp
  rw [Int.emod_eq_of_lt (by omega) (by omega), Int.toNat_natCast, List.getD_eq_getElem?_getD, List.getElem?_eq_getElem h]
  rfl
def rot (rs : List (Sh × Int)) (a : Int) : List (Sh × Int) := (List.range rs.length).map fun (k : Nat) => shp rs (a + (k : Int))
theorem rot_len (rs : List (Sh × Int)) (a : Int) : (rot rs a).length = rs.length := by
  unfold rot
  rw [List.length_map, List.length_range]
theorem rot_zero (rs : List (Sh × Int)) : rot rs 0 = rs := by
  refine List.ext_getElem? fun k => ?_
  unfold rot
  rw [List.getElem?_map]
  by_cases h : k < rs.length
  · rw [List.getElem?_range h, List.getElem?_eq_getElem h]
    show some (shp rs (0 + (k : Int))) = _
    rw [Int.zero_add, shp_nat rs h]
  · rw [List.getElem?_eq_none (by rw [List.length_range]; omega), List.getElem?_eq_none (by omega)]
    rfl
theorem rot_cons (rs : List (Sh × Int)) (a : Int) {n : Nat} (h : rs.length = n + 1) : rot rs a = shp rs a :: (List.range n).map fun (k : Nat) => shp rs (a + 1 + (k : Int)) := by
  unfold rot
  rw [h, List.range_succ_eq_map, List.map_cons, List.map_map]
  refine congr (congrArg List.cons ?_) ?_
  · show shp rs (a + ((0 : Nat) : Int)) = _
    rw [show a + ((0 : Nat) : Int) = a by omega]
  · refine List.map_congr_left fun k _ => ?_
    show shp rs (a + ((k + 1 : Nat) : Int)) = _
    rw [show a + ((k + 1 : Nat) : Int) = a + 1 + (k : Int) by omega]
theorem rot_snoc (rs : List (Sh × Int)) (a : Int) {n : Nat} (h : rs.length = n + 1) : rot rs (a + 1) = ((List.range n).map fun (k : Nat) => shp rs (a + 1 + (k : Int))) ++ [shp rs a] := by
  unfold rot
  rw [h, List.range_succ, List.map_append]
  show _ ++ [shp rs (a + 1 + (n : Int))] = _
  rw [show a + 1 + (n : Int) = a + (rs.length : Int) by rw [h]; omega, shp_add]
theorem wst_rot (rs : List (Sh × Int)) {p : Pl} (w0 : 0 ≤ p.2) (w3 : p.2 ≤ 3) (a : Int) : ∀ m : Nat, wst (pl rs p a).1.1 (pl rs p a).1.2 (pl rs p a).2 ((List.range m).map fun (k : Nat) => shp rs (a + (k : Int))) = ((List.range (m + 1)).map fun (k : Nat) => (pl rs p (a + (k : Int))).1, (pl rs p (a + (m : Int))).2)
  | 0 => by
    show ([((pl rs p a).1.1, (pl rs p a).1.2)], (pl rs p a).2) = ([(pl rs p (a + ((0 : Nat) : Int))).1], (pl rs p (a + ((0 : Nat) : Int))).2)
    rw [show a + ((0 : Nat) : Int) = a by omega]
  | m + 1 => by
    have ih := wst_rot rs w0 w3 a m
    rw [List.range_succ, List.map_append]
    show wst _ _ _ (_ ++ [shp rs (a + (m : Int))]) = _
    rw [wst_snoc, ih]
    have e : (List.range (m + 1)).map (fun (k : Nat) => (pl rs p (a + (k : Int))).1) = ((List.range m).map fun (k : Nat) => (pl rs p (a + (k : Int))).1) ++ [(pl rs p (a + (m : Int))).1] := by
      rw [List.range_succ, List.map_append]
      rfl
    have e2 : pl rs p (a + ((m + 1 : Nat) : Int)) = fw (pl rs p (a + (m : Int))) (shp rs (a + (m : Int))).1 := by
      rw [show a + ((m + 1 : Nat) : Int) = a + (m : Int) + 1 by omega, pl_step rs w0 w3]
    dsimp only
    rw [e2]
    conv => rhs; rw [List.range_succ, List.map_append]
    rw [show ([m + 1].map fun (k : Nat) => (pl rs p (a + (k : Int))).1) = [(pl rs p (a + ((m + 1 : Nat) : Int))).1] from rfl, e2]
    conv => lhs; rw [e, getLastD_snoc]
    rw [e]
    rfl
theorem sq_rot (rs : List (Sh × Int)) {p : Pl} (w0 : 0 ≤ p.2) (w3 : p.2 ≤ 3) (a : Int) : (wst (pl rs p a).1.1 (pl rs p a).1.2 (pl rs p a).2 (rot rs a)).1.dropLast = (List.range rs.length).map fun (k : Nat) => (pl rs p (a + (k : Int))).1 := by
  unfold rot
  rw [wst_rot rs w0 w3]
  dsimp only
  rw [List.range_succ, List.map_append]
  exact List.dropLast_concat
def plD (p : Pl) : PyData := .tuple [sq p.1, .int p.2]
def engAt (rs : List (Sh × Int)) (p : Pl) (look a : Int) : PyData := eng (pl rs p a).1.1 (pl rs p a).1.2 (pl rs p a).2 look (rot rs a)
theorem eng_fwd (rs : List (Sh × Int)) {p : Pl} (w0 : 0 ≤ p.2) (w3 : p.2 ≤ 3) (look a : Int) (r : Sh × Int) (rest : List (Sh × Int)) (h : rot rs a = r :: rest) : fwdE (pl rs p a).1.1 (pl rs p a).1.2 (pl rs p a).2 look r rest = engAt rs p look (a + 1) := by
  obtain ⟨n, hn⟩ : ∃ n, rs.length = n + 1 := by
    have := rot_len rs a
    rw [h, List.length_cons] at this
    exact ⟨rest.length, this.symm⟩
  rw [rot_cons rs a hn] at h
  cases h
  unfold engAt fwdE
  rw [rot_snoc rs a hn, pl_step rs w0 w3]
  rfl
theorem eng_bwd (rs : List (Sh × Int)) {p : Pl} (w0 : 0 ≤ p.2) (w3 : p.2 ≤ 3) (look a : Int) (r : Sh × Int) (init : List (Sh × Int)) (h : rot rs a = init ++ [r]) : bwdE (pl rs p a).1.1 (pl rs p a).1.2 (pl rs p a).2 look r init = engAt rs p look (a - 1) := by
  obtain ⟨n, hn⟩ : ∃ n, rs.length = n + 1 := by
    have := rot_len rs a
    rw [h, List.length_append] at this
    exact ⟨init.length, this.symm⟩
  have h2 := rot_snoc rs (a - 1) hn
  rw [show a - 1 + 1 = a by omega, h] at h2
  obtain ⟨e1, e2⟩ := List.append_inj' h2 rfl
  cases e2
  unfold engAt bwdE
  rw [rot_cons rs (a - 1) hn, pl_back rs w0 w3, show a - 1 + 1 = a by omega, e1]
  rfl
theorem t3_tb (w : Int) (s : Sh) : (w - t3 s) % 4 = tb w s := by
  cases s <;> simp only [t3, tb, Sh.t] <;> omega
theorem shp_at (rs : List (Sh × Int)) (h : rs ≠ []) (i : Int) : rs[(i % (rs.length : Int)).toNat]? = some (shp rs i) := by
  have hl : 0 < rs.length := List.length_pos_iff.mpr h
  have m := mod_in (a := i) (m := (rs.length : Int)) (by omega)
  have hk : (i % (rs.length : Int)).toNat < rs.length := by omega
  unfold shp
  rw [List.getD_eq_getElem?_getD, List.getElem?_eq_getElem hk]
  rfl
theorem rail_ix {K : PySem.W.Frag} {H : Hp} {xs : List V} {rs : List (Sh × Int)} (hx : DTs K H xs (rs.map rail)) (h : rs ≠ []) (i : Int) : ∃ a, atI xs (i % (rs.length : Int)) = some (.ref a) ∧ SqT K H a [.str (shp rs i).1.str, .int (shp rs i).2] := by
  have hl : 0 < rs.length := List.length_pos_iff.mpr h
  have m := mod_in (a := i) (m := (rs.length : Int)) (by omega)
  obtain ⟨v, h1, h2⟩ := hx.get (i := (i % (rs.length : Int)).toNat) (d := rail (shp rs i)) (by rw [List.getElem?_map, shp_at rs h i]; rfl)
  obtain ⟨a, rfl, h3⟩ := rail_at h2
  refine ⟨a, ?_, h3⟩
  have e := atI_nat h1
  rw [Int.toNat_of_nonneg m.1] at e
  exact e
def tbl3 : List (Key × V) := [(Sum.inr "l", .int 3), (Sum.inr "s", .int 0), (Sum.inr "r", .int 1)]
theorem tbl3_get (s : Sh) : valV tbl3 (Sum.inr s.str) = some (.int (t3 s)) := by
  cases s <;> decide +kernel
theorem r_disp3 {σ : L2.St} {H : Hp} {Q : VK} {tk : TE} (q : ∀ p H1, Same H H1 → H1 p = some (.dK tbl3) → tk σ H1 (fun y H2 => ∃ (a : Addr) (v : V), V.ref p = .ref a ∧ DGet H2 a y (some v) ∧ Q v H2)) : tDGet (tDisp [(tC (.str "l"), tC (.int 3)), (tC (.str "s"), tC (.int 0)), (tC (.str "r"), tC (.int 1))]) tk σ H Q := by
  intro p np
  refine ⟨upd_same, tbl3, rfl, by show 3 ≤ 15; decide, ?_⟩
  have e : mergeK [] tbl3 = tbl3 := by decide +kernel
  rw [e, upd_upd]
  exact q p _ (same_new np) upd_same
theorem dget3 {H2 : Hp} {p : Addr} {s : Sh} {Q : VK} (h1 : H2 p = some (.dK tbl3)) (h2 : Q (.int (t3 s)) H2) : ∃ (a : Addr) (v : V), V.ref p = .ref a ∧ DGet H2 a (.str s.str) (some v) ∧ Q v H2 :=
  ⟨p, .int (t3 s), rfl, .inl ⟨_, Sum.inr s.str, .inl h1, rfl, (tbl3_get s).symm⟩, h2⟩
theorem plD_at {K : PySem.W.Frag} {H : Hp} {v : V} {p : Pl} (h : DT K H v (plD p)) : ∃ a v1, v = .ref a ∧ SqT K H a [v1, .int p.2] ∧ DT K H v1 (sq p.1) := by
  obtain ⟨a, xs, rfl, hs, hx⟩ := h.tupOf
  obtain ⟨v1, v2, rfl, d1, d2⟩ := hx.two
  cases d2.intOf
  exact ⟨a, v1, rfl, hs, d1⟩
def spWalked (K : PySem.W.Frag) : Sp := fun vs H Q _ => ∃ (v : V) (x y w look : Int) (rs : List (Sh × Int)), vs = [v, .int (-60), .int 60] ∧ DT K H v (eng x y w look rs) ∧ 0 ≤ w ∧ w ≤ 3 ∧ rs ≠ [] ∧ rs.length ≤ 900 ∧
  ∀ p xs H', Same H H' → H p = none → H' p = some (.lst xs) → DTs K H' xs ((List.range 121).map fun (j : Nat) => plD (pl rs ((x, y), w) ((j : Int) - 60))) → Q (.ref p) H'
section
variable {P : Program} {w : World} {K : PySem.W.Frag} {mg : Str → Option Value} {base : Heap}
theorem ok__law_walked (T : Txt K w mg) : FnOk P w K mg base CX0 2 T.f__law_walked T.fd__law_walked ["_law_engine_here", "_law_first", "_law_last"] (spWalked K) := by
  refine T.F__law_walked.ok sc__law_walked (fun vs H Q E h => ?_) (fun cdv A outer s H vs Q E hr h => ?_)
  · obtain ⟨v, x, y, w, look, rs, rfl, _⟩ := h
    rfl
  · obtain ⟨v, x, y, w, look, rs, rfl, hd, w0, w3, hne, hl, q⟩ := h
    obtain ⟨a, ra, xr, rfl, hs, hr1, hr2⟩ := eng_at hd
    have hn0 : 0 < rs.length := List.length_pos_iff.mpr hne
    have ln : xr.length = rs.length := by rw [hr2.length, List.length_map]
    refine ⟨_, (pss_cons (ps_asg (pv 0) (pg_tup (n := 5) rfl (pgs_cons (pg_name (i := 3) sc__law_walked.nd rfl (.inl rfl)) (pgs_cons (pg_name (i := 4) sc__law_walked.nd rfl (.inl rfl)) (pgs_cons (pg_name (i := 5) sc__law_walked.nd rfl (.inl rfl)) (pgs_cons (pg_name (i := 6) sc__law_walked.nd rfl (.inl rfl)) (pgs_cons (pg_name (i := 7) sc__law_walked.nd rfl (.inl rfl)) pgs_nil)))))))
 (pss_cons (ps_par3 (i := 8) (j := 9) (l := 10) (by rfl) sc__law_walked.nd rfl rfl rfl (by decide) (by decide) (by decide) rfl rfl rfl (pa_cons (pe_callB call_len_seq (by rfl) T.m_len (by decide +kernel) (pa_cons (pv 7) pa_nil)) (pa_cons (pe_lst pa_nil) (pa_cons (pe_tup (pa_cons (pe_tup (pa_cons (pv 3) (pa_cons (pv 4) pa_nil))) (pa_cons (pv 5) pa_nil))) pa_nil))) (by rfl))
 (pss_cons (ps_for PassesOwn.never rfl (pi_range3 (by rfl) T.m_range (pa_cons pe_int (pa_cons (pv 1) (pa_cons (pe_op op_sub pe_int pe_int) pa_nil)))) (pg_name (i := 11) sc__law_walked.nd rfl (.inl rfl))
 (pss_cons (ps_set (i := 12) sc__law_walked.nd rfl (.inl rfl) (pe_op op_mod (pe_op op_sub (pe_ix ix_tup (pv 10) pe_int (fun _ _ => rfl)) (pe_dget (hu_of hr) (pe_disp (pps_cons pe_str pe_int (pps_cons pe_str pe_int (pps_cons pe_str pe_int pps_nil))) (by rfl) (by rfl) (fun z => by cases z) (by decide)) (pe_ix ix_tup (pe_ix ix_tup (pv 7) (pe_op op_mod (pe_op op_sub (pv 11) pe_int) (pv 8)) (fun _ _ => rfl)) pe_int (fun _ _ => rfl)) (fun _ _ => rfl))) pe_int))
 (pss_one (ps_set (i := 10) sc__law_walked.nd rfl (.inl rfl) (pe_tup (pa_cons (pe_call (ok__law_on T) (hr.mono (by decide)) (by rfl) T.g__law_on T.F__law_on.kp T.b__law_on .nil pass0 (pa_cons (pe_ix ix_tup (pv 10) pe_int (fun _ _ => rfl)) (pa_cons (pe_op op_mod (pe_op op_add (pe_ix ix_tup (pv 10) pe_int (fun _ _ => rfl)) pe_int) pe_int) pa_nil))) (pa_cons (pv 12) pa_nil)))))))
 (pss_cons (ps_for PassesOwn.never rfl (pi_range2 (by rfl) T.m_range (pa_cons (pe_callB (call_min2 rfl) (by rfl) T.m_min (by decide +kernel) (pa_cons pe_int (pa_cons (pv 1) pa_nil))) (pa_cons (pe_op op_add (pv 2) pe_int) pa_nil))) (pg_name (i := 11) sc__law_walked.nd rfl (.inl rfl))
 (pss_cons (ps_if (pt_cmpR op_ge (pv 11) (pv 1) (nomark _))
 (pss_one (ps_expr (pe_bm PySem.F.plainAttrs_list PySem.F.slot_list_append PySem.F.type_list_append mt_append (pv 9) (pa_cons (pv 10) pa_nil))))
 pss_nil)
 (pss_cons (ps_set (i := 13) sc__law_walked.nd rfl (.inl rfl) (pe_call (ok__law_turned T) (hr.mono (by decide)) (by rfl) T.g__law_turned T.F__law_turned.kp T.b__law_turned .nil pass0 (pa_cons (pe_ix ix_tup (pv 10) pe_int (fun _ _ => rfl)) (pa_cons (pe_ix ix_tup (pe_ix ix_tup (pv 7) (pe_op op_mod (pv 11) (pv 8)) (fun _ _ => rfl)) pe_int (fun _ _ => rfl)) pa_nil))))
 (pss_one (ps_set (i := 10) sc__law_walked.nd rfl (.inl rfl) (pe_tup (pa_cons (pe_call (ok__law_on T) (hr.mono (by decide)) (by rfl) T.g__law_on T.F__law_on.kp T.b__law_on .nil pass0 (pa_cons (pe_ix ix_tup (pv 10) pe_int (fun _ _ => rfl)) (pa_cons (pv 13) pa_nil))) (pa_cons (pv 13) pa_nil))))))))
 (pss_one (ps_ret (pv 9))))))), ?_⟩
    refine ⟨.ref a, rfl, a, _, rfl, hs, rfl, _, _, rfl, _, _, rfl, _, _, rfl, _, _, rfl, _, _, rfl, rfl, ?_⟩
    -- many, found, here
    refine ⟨.ref ra, rfl, ra, xr, rfl, .inr hr1, Nat.zero_le _, fun p np => ?_⟩
    refine ⟨.int x, rfl, .int y, rfl, by show 2 ≤ sizeLine; decide, fun t nt => ⟨.int w, rfl, by show 2 ≤ sizeLine; decide, fun t2 nt2 => ?_⟩⟩
    refine ⟨_, _, _, rfl, ?_⟩
    rw [ln]
    have s1 := ((same_new (o := HO.lst []) np).trans (same_new (o := HO.tup [.int x, .int y]) nt)).trans (same_new (o := HO.tup [.ref t, .int w]) nt2)
    have hp1 := ((same_new (o := HO.tup [.int x, .int y]) nt).trans (same_new (o := HO.tup [.ref t, .int w]) nt2)) p (.lst []) upd_same
    have hh : DT K (upd (upd (upd H p (.lst [])) t (.tup [.int x, .int y])) t2 (.tup [.ref t, .int w])) (.ref t2) (plD ((x, y), w)) := DT.new (.cons (DT.new (.cons (.int x) (.cons (.int y) .nil)) nt) (.cons (.int w) .nil)) nt2
    generalize (upd (upd (upd H p (.lst [])) t (.tup [.int x, .int y])) t2 (.tup [.ref t, .int w])) = H1 at s1 hp1 hh ⊢
    -- back to the first place
    refine ⟨.int (-60), rfl, 0, 1, rfl, rfl, 0, -60, -1, 60, rfl, RgC.neg (by decide) (by decide) (by decide) (by decide), for_rangeC (lo := 0) (c := -1) (n := 60) (fun i σ H' => ∃ vh y11 y12 y13, σ = [some (.ref a), some (.int (-60)), some (.int 60), some (.int x), some (.int y), some (.int w), some (.int look), some (.ref ra), some (.int (rs.length : Int)), some (.ref p), some vh, y11, y12, y13] ∧
      Same H H' ∧ H' p = some (.lst []) ∧ DT K H' vh (plD (dnF rs ((x, y), w) i))) ⟨_, _, _, _, rfl, s1, hp1, hh⟩ (fun i σ H2 hi hP => ?_) (fun σ H2 hP => ?_)⟩
    · obtain ⟨vh, y11, y12, y13, rfl, s2, hp2, dh⟩ := hP
      have dh' : DT K H2 vh (.tuple [sq (dnF rs ((x, y), w) i).1, .int (dnF rs ((x, y), w) i).2]) := dh
      obtain ⟨ar, har, hsr⟩ := rail_ix hr2 hne (-(i : Int) - 1)
      refine r_op (r_op (r_ixTV (v := vh) rfl dh' rfl fun v2 d2 => ?_))
      cases d2.intOf
      refine r_disp3 fun pd H3 s3 hpd => ?_
      have s13 := s2.trans s3
      refine ⟨.ref ra, rfl, .int (0 + (i : Int) * -1), rfl, _, 1, rfl, rfl, .int (rs.length : Int), rfl, _, _, rfl, rfl, by show (0 : Int) < (rs.length : Int); omega, ra, xr, _, .ref ar, rfl, rfl, tk_seq (tk_same s13) hr1, ?_, ar, _, 0, .str (shp rs (-(i : Int) - 1)).1.str, rfl, rfl, tk_seq (tk_same s13) hsr, rfl, pd, .int (t3 (shp rs (-(i : Int) - 1)).1), rfl, .inl ⟨_, Sum.inr (shp rs (-(i : Int) - 1)).1.str, .inl hpd, rfl, (tbl3_get _).symm⟩, ?_⟩
      · rw [show (0 + (i : Int) * -1 - 1) = -(i : Int) - 1 by omega]
        exact har
      · refine ⟨_, _, rfl, rfl, _, 4, rfl, rfl, by show (0 : Int) < 4; decide, ?_⟩
        have dh3 := dh'.up (tk_same s3)
        refine r_nm ?_
        dsimp only
        refine r_asg ?_
        refine r_tup ?_
        refine r_cons ?_
        refine r_call ?_
        refine r_cons ?_
        refine r_ixTV (v := vh) rfl dh3 rfl fun v5 d5 => ?_
        refine r_cons (r_op (r_op ?_))
        refine r_ixTV (v := vh) rfl dh3 rfl fun v6 d6 => ?_
        cases d6.intOf
        have m4 := mod_in (a := (dnF rs ((x, y), w) i).2 + 2) (m := 4) (by decide)
        refine ⟨_, 2, rfl, rfl, _, 4, rfl, rfl, by show (0 : Int) < 4; decide, v5, _, _, rfl, d5, m4.1, by omega, fun v7 H4 s4 d7 => ⟨_, rfl, by show 2 ≤ sizeLine; decide, fun t9 n9 => ?_⟩⟩
        refine ⟨_, _, _, _, rfl, ((s13.trans s4).trans (same_new n9)), ((s3.trans s4).trans (same_new n9)) _ _ hp2, ?_⟩
        have e := DT.new (K := K) (.cons d7 (.cons (.int (((dnF rs ((x, y), w) i).2 - t3 (shp rs (-(i : Int) - 1)).1) % 4)) .nil)) n9
        have e2 : plD (dnF rs ((x, y), w) (i + 1)) = .tuple [sq (on (dnF rs ((x, y), w) i).1 (((dnF rs ((x, y), w) i).2 + 2) % 4)), .int (((dnF rs ((x, y), w) i).2 - t3 (shp rs (-(i : Int) - 1)).1) % 4)] := by
          rw [t3_tb]
          rfl
        rw [e2]
        exact e
    · obtain ⟨vh, y11, y12, y13, rfl, s2, hp2, dh⟩ := hP
      have dh0 : DT K H2 vh (plD (pl rs ((x, y), w) (((0 : Nat) : Int) - 60))) := by
        have e := pl_neg rs ((x, y), w) 60
        rw [show (((0 : Nat) : Int) - 60) = -((60 : Nat) : Int) by decide, e]
        exact dh
      refine ⟨.int (-60), rfl, 0, -60, rfl, .int 60, rfl, 60, 1, rfl, rfl, -60, 61, rfl, ⟨by decide, by decide, by decide, by decide⟩, for_range (lo := -60) (n := 121) (fun j σ H' => ∃ vh xs y11 y12 y13, σ = [some (.ref a), some (.int (-60)), some (.int 60), some (.int x), some (.int y), some (.int w), some (.int look), some (.ref ra), some (.int (rs.length : Int)), some (.ref p), some vh, y11, y12, y13] ∧
        Same H H' ∧ H' p = some (.lst xs) ∧ DTs K H' xs ((List.range j).map fun (k : Nat) => plD (pl rs ((x, y), w) ((k : Int) - 60))) ∧ DT K H' vh (plD (pl rs ((x, y), w) ((j : Int) - 60)))) ⟨_, _, _, _, _, rfl, s2, hp2, .nil, dh0⟩ (fun j σ H3 hj hP => ?_) (fun σ H3 hP => ?_)⟩
      · obtain ⟨vh, xs, y11, y12, y13, rfl, s3, hp3, hx, dj⟩ := hP
        have dj' : DT K H3 vh (.tuple [sq (pl rs ((x, y), w) ((j : Int) - 60)).1, .int (pl rs ((x, y), w) ((j : Int) - 60)).2]) := dj
        refine ⟨.int (-60 + (j : Int)), rfl, .int (-60), rfl, _, _, rfl, rfl, _, rfl, ite2 (fun _ => ?_) (fun e => absurd (decide_eq_true (show (-60 : Int) ≤ -60 + (j : Int) by omega)) e)⟩
        have lx : xs.length = j := by rw [hx.length, List.length_map, List.length_range]
        refine ⟨.ref p, rfl, .inl ⟨rfl, _, SqL.of hp3⟩, vh, rfl, p, xs, vh, rfl, rfl, hp3, small1000 (by omega), ?_⟩
        have tk4 : Tk H3 (upd H3 p (.lst (xs ++ [vh]))) := tk_set hp3
        have hp0 : H p = none := np
        have s4 : Same H (upd H3 p (.lst (xs ++ [vh]))) := fun c o h => by
          rw [upd_ne (ne_of_none h hp0)]
          exact s3 _ _ h
        have dj4 := dj'.up tk4
        obtain ⟨ar, har, hsr⟩ := rail_ix hr2 hne ((j : Int) - 60)
        refine r_call (r_cons (r_ixTV (v := vh) rfl dj4 rfl fun v2 d2 => ?_))
        cases d2.intOf
        refine ⟨.ref ra, rfl, .int (-60 + (j : Int)), rfl, .int (rs.length : Int), rfl, _, _, rfl, rfl, by show (0 : Int) < (rs.length : Int); omega, ra, xr, _, .ref ar, rfl, rfl, tk_seq (tk_same s4) hr1, ?_, ar, _, 0, .str (shp rs ((j : Int) - 60)).1.str, rfl, rfl, tk_seq (tk_same s4) hsr, rfl, _, (shp rs ((j : Int) - 60)).1, rfl, fun H5 s5 => ?_⟩
        · rw [show (-60 + (j : Int)) = (j : Int) - 60 by omega]
          exact har
        · have dj5 := dj4.up (tk_same s5)
          refine r_nm ?_
          dsimp only
          refine r_asg ?_
          refine r_tup ?_
          refine r_cons ?_
          refine r_call ?_
          refine r_cons ?_
          refine r_ixTV (v := vh) rfl dj5 rfl fun v6 d6 => ?_
          refine ⟨_, rfl, v6, _, _, rfl, d6, tn_lo _ _, tn_hi _ _, fun v7 H6 s6 d7 => ⟨_, rfl, by show 2 ≤ sizeLine; decide, fun t9 n9 => ?_⟩⟩
          have s69 := (s5.trans s6).trans (same_new (o := HO.tup [v7, .int (tn (pl rs ((x, y), w) ((j : Int) - 60)).2 (shp rs ((j : Int) - 60)).1)]) n9)
          refine ⟨.ref t9, xs ++ [vh], _, _, _, rfl, s4.trans s69, s69 _ _ upd_same, ?_, ?_⟩
          · rw [List.range_succ, List.map_append]
            exact (hx.up (tk4.trans (tk_same s69))).append (.cons (dj4.up (tk_same s69)) .nil)
          · have e := DT.new (K := K) (.cons d7 (.cons (.int (tn (pl rs ((x, y), w) ((j : Int) - 60)).2 (shp rs ((j : Int) - 60)).1)) .nil)) n9
            have e2 := pl_step rs (p := ((x, y), w)) w0 w3 ((j : Int) - 60)
            rw [show ((j + 1 : Nat) : Int) - 60 = (j : Int) - 60 + 1 by omega, e2]
            exact e
      · obtain ⟨vh, xs, y11, y12, y13, rfl, s3, hp3, hx, dj⟩ := hP
        exact ⟨.ref p, rfl, q p xs H3 s3 np hp3 hx⟩
end
theorem strOk_sh (s : Sh) : PyData.strOk s.str = true := by
  cases s <;> decide +kernel
theorem shaped_pls (d : List PyData) (h : PyData.canLayAll0 d = true) (h2 : PyData.depthAll d ≤ 10) : SeqAt.shaped (.tuple d) = true := by
  unfold SeqAt.shaped
  rw [PyData.canLay0, h, PyData.depth, decide_eq_true (by omega)]
  rfl
theorem shaped_pll (d : List PyData) (h : PyData.canLayAll0 d = true) (h2 : PyData.depthAll d ≤ 10) : SeqAt.shaped (.list d) = true := by
  unfold SeqAt.shaped
  rw [PyData.canLay0, h, PyData.depth, decide_eq_true (by omega)]
  rfl
theorem lay_rail (r : Sh × Int) : (rail r).canLay0 = true := by
  rw [rail, PyData.canLay0, PyData.canLayAll0, PyData.canLayAll0, PyData.canLayAll0, PyData.canLay0, PyData.canLay0, strOk_sh]
  rfl
theorem lay_rails : ∀ rs : List (Sh × Int), PyData.canLayAll0 (rs.map rail) = true
  | [] => rfl
  | r :: rs => by
    rw [List.map_cons, PyData.canLayAll0, lay_rail, lay_rails rs]
    rfl
theorem dep_rails : ∀ rs : List (Sh × Int), PyData.depthAll (rs.map rail) ≤ 3
  | [] => by simp [PyData.depthAll]
  | r :: rs => by
    have h := dep_rails rs
    rw [List.map_cons, PyData.depthAll]
    have h2 : (rail r).depth ≤ 3 := by simp [rail, PyData.depth, PyData.depthAll]
    omega
theorem eqv_ok (d : PyData) (h : SeqAt.shaped d = true) : PyData.eqv d d = true := SeqAt.eqv_refl d (SeqAt.canLay_of_shaped h)
/-- the road as the law keeps it: a list of 121 places beside the rails -/
structure Road (K : PySem.W.Frag) (H : Hp) (t : Addr) (L : Addr) (vr : V) (xs : List V) (rs : List (Sh × Int)) (p : Pl) : Prop where
  st : SqT K H t [.ref L, vr]
  sl : H L = some (.lst xs)
  dl : DTs K H xs ((List.range 121).map fun (j : Nat) => plD (pl rs p ((j : Int) - 60)))
  dr : DT K H vr (.tuple (rs.map rail))
theorem Road.same {K : PySem.W.Frag} {H H' : Hp} {t L : Addr} {vr : V} {xs : List V} {rs : List (Sh × Int)} {p : Pl} (h : Road K H t L vr xs rs p) (e : Same H H') : Road K H' t L vr xs rs p :=
  ⟨tk_seq (tk_same e) h.st, e _ _ h.sl, h.dl.up (tk_same e), h.dr.up (tk_same e)⟩
theorem Road.but {K : PySem.W.Frag} {H H' : Hp} {t L b : Addr} {vr : V} {xs : List V} {rs : List (Sh × Int)} {p : Pl} (h : Road K H t L vr xs rs p) (hb : Box H b) (n : L ≠ b) (e : But b H H') : Road K H' t L vr xs rs p := by
  obtain ⟨_, _, _, hb⟩ := hb
  have tk := tk_but hb e
  exact ⟨tk_seq tk h.st, e _ _ n h.sl, h.dl.up tk, h.dr.up tk⟩
def spLies (K : PySem.W.Frag) : Sp := fun vs H Q _ => ∃ (v : V) (t L : Addr) (vr : V) (xs : List V) (rs : List (Sh × Int)) (p : Pl) (look a : Int), vs = [v, .ref t, .int (rs.length : Int), .int a] ∧ Road K H t L vr xs rs p ∧ DT K H v (engAt rs p look a) ∧ 0 ≤ p.2 ∧ p.2 ≤ 3 ∧ rs ≠ [] ∧ rs.length ≤ 12 ∧ -25 ≤ a ∧ a ≤ 25 ∧ ∀ H', Same H H' → Q (.bl true) H'
section
variable {P : Program} {w : World} {K : PySem.W.Frag} {mg : Str → Option Value} {base : Heap}
theorem ok__law_lies_right (T : Txt K w mg) : FnOk P w K mg base CX0 4 T.f__law_lies_right T.fd__law_lies_right ["_law_engine_here", "_law_road", "_law_many", "_law_at"] (spLies K) := by
  refine T.F__law_lies_right.ok sc__law_lies_right (fun vs H Q E h => ?_) (fun cdv A outer s H vs Q E hr h => ?_)
  · obtain ⟨v, t, L, vr, xs, rs, p, look, a, rfl, _⟩ := h
    rfl
  · obtain ⟨v, t, L, vr, xs, rs, p, look, a, rfl, R, hd, w0, w3, hne, hl, a0, a9, q⟩ := h
    have hn0 : 0 < rs.length := List.length_pos_iff.mpr hne
    have lx : xs.length = 121 := by rw [R.dl.length, List.length_map, List.length_range]
    refine ⟨_, (pss_cons (ps_set (i := 4) sc__law_lies_right.nd rfl (.inr rfl) (pe_ix ix_tup (pv 1) pe_int (fun _ _ => rfl)))
 (pss_cons (ps_setLc (i := 5) (own := [("_law_k", 6)]) (g := gName 6) (by rfl) sc__law_lies_right.nd rfl rfl (sw_true rfl rfl rfl (by decide +kernel)) (pi_range1 (by rfl) T.m_range (pa_cons (pv 2) pa_nil)) (blkOk_by (own := [("_law_k", 6)]) (N := N__law_lies_right) (sc := defScope s__law_lies_right) (by decide +kernel)) (fun _ _ _ _ _ => pg_name (i := 6) sc__law_lies_right.nd rfl (.inl rfl) (.inr rfl)) (fun _ _ _ _ _ => pts_nil) (fun _ _ _ _ _ => (pe_ix (r := rIxL K) ix_list (pe_ix (r := rIxT K) ix_tup (pv 1) pe_int (fun _ _ => rfl)) (pe_op op_add (pe_op op_add pe_int (pv 3)) (pv 6)) (fun _ _ => rfl))))
 (pss_cons (ps_if (PW.pt (pw_or (pt_cmpR (op_neD hr.units) (pe_slice sl_tupA (pv 0) po_none (po_some pe_int)) (pe_op op_catA (pe_ix ix_tup (pe_ix ix_list (pv 5) pe_int (fun _ _ => rfl)) pe_int (fun _ _ => rfl)) (pe_tup (pa_cons (pe_ix ix_tup (pe_ix ix_list (pv 5) pe_int (fun _ _ => rfl)) pe_int (fun _ _ => rfl)) pa_nil))) (nomark _)) (pw_or1 (pt_cmpR (op_neD hr.units) (pe_callTy call_list_of (by rfl) T.m_list (by decide +kernel) (pa_cons (pe_call (ok_squares_of T) (hr.mono (by decide)) (by rfl) T.g_squares_of T.F_squares_of.kp T.b_squares_of .nil pass0 (pa_cons (pv 0) pa_nil)) pa_nil)) (pe_lc (own := [("_law_one", 7), ("_law_way", 8)]) (g := gTup K 2 (gCons (gName 7) (gCons (gName 8) gNil))) (by rfl) sc__law_lies_right.nd (pi_list (pv 5)) (blkOk_by (own := [("_law_one", 7), ("_law_way", 8)]) (N := N__law_lies_right) (sc := defScope s__law_lies_right) (by decide +kernel)) (fun _ _ _ _ _ => pg_tup (n := 2) rfl (pgs_cons (pg_name (i := 7) sc__law_lies_right.nd rfl (.inl rfl) (.inr rfl)) (pgs_cons (pg_name (i := 8) sc__law_lies_right.nd rfl (.inl rfl) (.inr rfl)) pgs_nil))) (fun _ _ _ _ _ => pts_nil) (fun _ _ _ _ _ => (pv 7))) (nomark _)))))
 (pss_one (ps_ret pe_bl))
 pss_nil)
 (pss_one (ps_ret (pe_cmpR (op_eqD hr.units) (pe_ix ix_tup (pv 0) pe_int (fun _ _ => rfl)) (pe_callTy call_tuple_of (by rfl) T.m_tuple (by decide +kernel) (pa_cons (pe_lc (own := [("_law_k", 6)]) (g := gName 6) (by rfl) sc__law_lies_right.nd (pi_range1 (by rfl) T.m_range (pa_cons (pv 2) pa_nil)) (blkOk_by (own := [("_law_k", 6)]) (N := N__law_lies_right) (sc := defScope s__law_lies_right) (by decide +kernel)) (fun _ _ _ _ _ => pg_name (i := 6) sc__law_lies_right.nd rfl (.inl rfl) (.inr rfl)) (fun _ _ _ _ _ => pts_nil) (fun _ _ _ _ _ => (pe_ix (r := rIxT K) ix_tup (pv 4) (pe_op op_mod (pe_op op_add (pv 3) (pv 6)) (pv 2)) (fun _ _ => rfl)))) pa_nil)) (nomark _))))))), ?_⟩
    -- rails
    refine ⟨.ref t, rfl, t, _, 1, vr, rfl, rfl, R.st, rfl, ?_⟩
    -- row
    have hrow : ∀ k : Nat, k < rs.length → ∃ vk, atI xs (60 + a + (k : Int)) = some vk ∧ DT K H vk (plD (pl rs p (a + (k : Int)))) := fun k hk => by
      obtain ⟨j, hj⟩ : ∃ j : Nat, 60 + a + (k : Int) = (j : Int) := ⟨(60 + a + (k : Int)).toNat, by omega⟩
      have hj121 : j < 121 := by omega
      obtain ⟨vk, h1, h2⟩ := R.dl.get (i := j) (d := plD (pl rs p ((j : Int) - 60))) (by rw [List.getElem?_map, List.getElem?_range hj121]; rfl)
      refine ⟨vk, by rw [hj]; exact atI_nat h1, ?_⟩
      rw [show a + (k : Int) = (j : Int) - 60 by omega]
      exact h2
    refine ⟨.int (rs.length : Int), rfl, (rs.length : Int), rfl, by omega, by omega, fun D nD => lc_range (lo := 0) (n := ((rs.length : Int)).toNat) (fun i H' => Same H H' ∧ ∃ ys, H' D = some (.lst ys) ∧ DTs K H' ys ((List.range i).map fun (k : Nat) => plD (pl rs p (a + (k : Int))))) ⟨same_new nD, [], upd_same, .nil⟩ (fun i H' hi hP => ?_) (fun H' hP => ?_)⟩
    · obtain ⟨s1, ys, hD, hys⟩ := hP
      have hi' : i < rs.length := by omega
      obtain ⟨vk, hvk, dvk⟩ := hrow i hi'
      have R1 := R.same s1
      have ly : ys.length = i := by rw [hys.length, List.length_map, List.length_range]
      refine ⟨rfl, ?_⟩
      refine ⟨.ref t, rfl, t, _, 0, .ref L, rfl, rfl, R1.st, rfl, .int a, rfl, 60, a, rfl, rfl, .int (0 + (i : Int)), rfl, _, _, rfl, rfl, L, xs, _, vk, rfl, rfl, SqL.of R1.sl, ?_, ys, hD, small1000 (by omega), fun c o h => ?_, _, upd_same, ?_⟩
      · rw [Int.zero_add]
        exact hvk
      · rw [upd_ne (ne_of_none h nD)]
        exact s1 _ _ h
      · rw [List.range_succ, List.map_append]
        exact (hys.up (tk_set hD)).append (.cons ((dvk.up (tk_same s1)).up (tk_set hD)) .nil)
    · obtain ⟨s1, ys, hD, hys⟩ := hP
      rw [Int.toNat_natCast] at hys
      have hd1 : DT K H' v (.tuple [.int (pl rs p a).1.1, .int (pl rs p a).1.2, .int (pl rs p a).2, .int look, .tuple ((rot rs a).map rail)]) := hd.up (tk_same s1)
      obtain ⟨v0, hv0, d0⟩ := hys.get (i := 0) (d := plD (pl rs p (a + ((0 : Nat) : Int)))) (by rw [List.getElem?_map, List.getElem?_range hn0]; rfl)
      rw [show a + ((0 : Nat) : Int) = a by omega] at d0
      obtain ⟨a0, v01, rfl, hs0, d01⟩ := plD_at d0
      refine ⟨v, rfl, 3, rfl, r_slA hd1 fun v1 H2 s2 d2 => ?_⟩
      rw [eng_cut] at d2
      have hD2 := s2 _ _ hD
      refine ⟨.ref D, rfl, D, ys, 0, .ref a0, rfl, rfl, SqL.of hD2, atI_nat (j := 0) hv0, a0, _, 0, v01, rfl, rfl, tk_seq (tk_same s2) hs0, rfl, .ref D, rfl, D, ys, 0, .ref a0, rfl, rfl, SqL.of hD2, atI_nat (j := 0) hv0, a0, _, 1, .int (pl rs p a).2, rfl, rfl, tk_seq (tk_same s2) hs0, rfl, by show 1 ≤ sizeLine; decide, fun tt ntt => ?_⟩
      have dtt : DT K (upd H2 tt (.tup [.int (pl rs p a).2])) (.ref tt) (.tuple [.int (pl rs p a).2]) := DT.new (.cons (.int _) .nil) ntt
      have d01' : DT K (upd H2 tt (.tup [.int (pl rs p a).2])) v01 (.tuple [.int (pl rs p a).1.1, .int (pl rs p a).1.2]) := (d01.up (tk_same s2)).up (tk_new ntt)
      refine r_catA d01' dtt (by show 2 + 1 ≤ 1000; decide) fun v3 H4 s4 d4 => ?_
      have d2' := (d2.up (tk_new ntt)).up (tk_same s4)
      have s14 := ((s1.trans s2).trans (same_new ntt)).trans s4
      have sh3 : SeqAt.shaped (.tuple [.int (pl rs p a).1.1, .int (pl rs p a).1.2, .int (pl rs p a).2]) = true := shaped_pls _ rfl (by simp [PyData.depthAll, PyData.depth])
      refine ⟨_, _, d2'.dp, d4.dp, sh3, sh3, _, rfl, iteNe (eqv_ok _ sh3) ?_⟩
      -- list(squares_of(..)) beside the places
      have rl : (rot rs a).length ≤ 900 := by
        rw [rot_len]
        omega
      refine ⟨v, rfl, v, _, _, _, look, rot rs a, rfl, hd.up (tk_same s14), rl, fun v5 H5 s5 d5 => ?_⟩
      rw [sq_rot rs w0 w3 a, List.map_map] at d5
      obtain ⟨p5, x5, rfl, hs5, hx5⟩ := d5.tupOf
      refine ⟨p5, x5, rfl, .inr hs5, fun l5 n5 => ?_⟩
      have s15 := s14.trans s5
      have hy5 := hys.up (tk_same (((s2.trans (same_new (o := HO.tup [.int (pl rs p a).2]) ntt)).trans s4).trans s5))
      have hD5 := (((s2.trans (same_new (o := HO.tup [.int (pl rs p a).2]) ntt)).trans s4).trans s5) _ _ hD
      have hD6 := same_new (o := HO.lst x5) n5 _ _ hD5
      have hy6 := hy5.up (tk_new (o := HO.lst x5) n5)
      refine ⟨.ref D, rfl, D, rfl, ⟨_, SqL.of hD6⟩, fun D2 nD2 => lc_list (xs := ys) (fun i H' => Same (upd H5 l5 (.lst x5)) H' ∧ ∃ zs, H' D2 = some (.lst zs) ∧ DTs K H' zs ((List.range i).map fun (k : Nat) => sq (pl rs p (a + (k : Int))).1)) ⟨same_new nD2, [], upd_same, .nil⟩ (fun i H' _ hP => SqL.of (hP.1 _ _ hD6)) (fun i x H7 hx hP => ?_) (fun H7 hP => ?_)⟩
      · obtain ⟨s7, zs, hz, hzs⟩ := hP
        have hi' : i < rs.length := by
          have h1 := (List.getElem?_eq_some_iff.mp hx).1
          rw [hy6.length, List.length_map, List.length_range] at h1
          exact h1
        obtain ⟨d, hd3, dx3⟩ := hy6.getV hx
        rw [List.getElem?_map, List.getElem?_range hi'] at hd3
        cases Option.some.inj hd3
        obtain ⟨ai, vi, rfl, hsi, di⟩ := plD_at dx3
        have lz : zs.length = i := by rw [hzs.length, List.length_map, List.length_range]
        refine ⟨ai, _, rfl, tk_seq (tk_same s7) hsi, rfl, _, _, rfl, _, _, rfl, rfl, rfl, ?_⟩
        refine ⟨vi, rfl, zs, hz, small1000 (by omega), fun c o h => ?_, _, upd_same, ?_⟩
        · rw [upd_ne (ne_of_none h nD2)]
          exact s7 _ _ h
        · rw [List.range_succ, List.map_append]
          exact (hzs.up (tk_set hz)).append (.cons ((di.up (tk_same s7)).up (tk_set hz)) .nil)
      · obtain ⟨s7, zs, hz, hzs⟩ := hP
        have ly : ys.length = rs.length := by rw [hys.length, List.length_map, List.length_range]
        rw [ly] at hzs
        have e5 : ((List.range rs.length).map fun (k : Nat) => sq (pl rs p (a + (k : Int))).1) = ((List.range rs.length).map fun (k : Nat) => (pl rs p (a + (k : Int))).1).map sq := by
          rw [List.map_map]
          rfl
        have shl := shaped_sqs ((List.range rs.length).map fun (k : Nat) => (pl rs p (a + (k : Int))).1)
        rw [← e5] at shl
        refine ⟨_, _, .lst (SqL.of (s7 _ _ upd_same)) (hx5.up ((tk_new (o := HO.lst x5) n5).trans (tk_same s7))).dp, .lst (SqL.of hz) hzs.dp, shl, shl, _, rfl, iteNe (eqv_ok _ shl) ?_⟩
        -- the rails
        have s17 := (s15.trans (same_new (o := HO.lst x5) n5)).trans s7
        have hd7 : DT K H7 v (.tuple [.int (pl rs p a).1.1, .int (pl rs p a).1.2, .int (pl rs p a).2, .int look, .tuple ((rot rs a).map rail)]) := hd.up (tk_same s17)
        refine r_next ?_
        dsimp only
        refine r_ret (r_op ?_)
        refine r_ixTV (v := v) rfl hd7 rfl fun v9 d9 => ?_
        obtain ⟨ra, xr, evr, hra, hxr⟩ := R.dr.tupOf
        subst evr
        refine ⟨.int (rs.length : Int), rfl, (rs.length : Int), rfl, by omega, by omega, fun D3 nD3 => lc_range (lo := 0) (n := ((rs.length : Int)).toNat) (fun i H' => Same H7 H' ∧ ∃ us, H' D3 = some (.lst us) ∧ DTs K H' us ((List.range i).map fun (k : Nat) => rail (shp rs (a + (k : Int))))) ⟨same_new nD3, [], upd_same, .nil⟩ (fun i H8 hi hP => ?_) (fun H8 hP => ?_)⟩
        · obtain ⟨s8, us, hu, hus⟩ := hP
          obtain ⟨ar, har, hsr⟩ := rail_ix hxr hne (a + (i : Int))
          have s18 := s17.trans s8
          have lu : us.length = i := by rw [hus.length, List.length_map, List.length_range]
          have dr8 : DT K H8 (.ref ar) (rail (shp rs (a + (i : Int)))) := .tup (tk_seq (tk_same s18) hsr) (.cons (.str _) (.cons (.int _) .nil))
          refine ⟨rfl, ?_⟩
          refine ⟨.ref ra, rfl, .int a, rfl, .int (0 + (i : Int)), rfl, a, _, rfl, rfl, .int (rs.length : Int), rfl, _, _, rfl, rfl, by show (0 : Int) < (rs.length : Int); omega, ra, xr, _, .ref ar, rfl, rfl, tk_seq (tk_same s18) hra, ?_, us, hu, small1000 (by omega), fun c o h => ?_, _, upd_same, ?_⟩
          · rw [Int.zero_add]
            exact har
          · rw [upd_ne (ne_of_none h nD3)]
            exact s8 _ _ h
          · rw [List.range_succ, List.map_append]
            exact (hus.up (tk_set hu)).append (.cons (dr8.up (tk_set hu)) .nil)
        · obtain ⟨s8, us, hu, hus⟩ := hP
          rw [Int.toNat_natCast] at hus
          refine ⟨D3, us, rfl, .inl ⟨SqL.of hu, fun l nl => ?_⟩⟩
          have e6 : (rot rs a).map rail = (List.range rs.length).map fun (k : Nat) => rail (shp rs (a + (k : Int))) := by
            unfold rot
            rw [List.map_map]
            rfl
          have shr := shaped_pls _ (lay_rails (rot rs a)) (Nat.le_trans (dep_rails (rot rs a)) (by decide))
          rw [← e6] at hus
          refine ⟨_, _, ((d9.up (tk_same s8)).up (tk_new nl)).dp, (DT.new hus nl).dp, shr, shr, ?_⟩
          rw [eqv_ok _ shr]
          exact q _ ((s17.trans s8).trans (same_new nl))
end
theorem engAt_zero (x y w look : Int) (rs : List (Sh × Int)) : engAt rs ((x, y), w) look 0 = eng x y w look rs := by
  unfold engAt
  rw [rot_zero]
  rfl
theorem gone_at {K : PySem.W.Frag} {H : Hp} {v : V} {rs : List (Sh × Int)} {p : Pl} {lk a : Int} (w0 : 0 ≤ p.2) (w3 : p.2 ≤ 3) (hne : rs ≠ []) (hk : lk = 1 ∨ lk = -1)
    (f : ∀ r rest, rot rs a = r :: rest → lk = 1 → DT K H v (fwdE (pl rs p a).1.1 (pl rs p a).1.2 (pl rs p a).2 lk r rest)) (g : ∀ init r, rot rs a = init ++ [r] → lk ≠ 1 → DT K H v (bwdE (pl rs p a).1.1 (pl rs p a).1.2 (pl rs p a).2 lk r init)) : DT K H v (engAt rs p lk (a + lk)) := by
  have hr : rot rs a ≠ [] := fun z => by
    have := rot_len rs a
    rw [z] at this
    exact hne (List.length_eq_zero_iff.mp this.symm)
  rcases hk with rfl | rfl
  · obtain ⟨r, rest, e⟩ : ∃ r rest, rot rs a = r :: rest := by
      cases h : rot rs a with
      | nil => exact absurd h hr
      | cons r rest => exact ⟨r, rest, rfl⟩
    have := f r rest e rfl
    rw [eng_fwd rs w0 w3 1 a r rest e] at this
    exact this
  · obtain ⟨init, r, e⟩ : ∃ init r, rot rs a = init ++ [r] := by
      rcases List.eq_nil_or_concat (rot rs a) with h | ⟨init, r, h⟩
      · exact absurd h hr
      · exact ⟨init, r, by rw [← List.concat_eq_append]; exact h⟩
    have := g init r e (by decide)
    rw [eng_bwd rs w0 w3 (-1) a r init e] at this
    exact this
theorem max_in (a : Int) (h1 : -25 ≤ a) (h2 : a ≤ 25) : -(2 ^ 62) ≤ (if 0 - a > a then 0 - a else a) ∧ (if 0 - a > a then 0 - a else a) < 2 ^ 62 := by
  split <;> constructor <;> omega
theorem max_end (a lk : Int) (hk : lk = 1 ∨ lk = -1) (h1 : 0 < a → lk = -1) (h2 : a < 0 → lk = 1) : a + ((if 0 - a > a then 0 - a else a).toNat : Int) * lk = 0 := by
  rcases hk with rfl | rfl
  · split <;> omega
  · split <;> omega
section
variable {P : Program} {w : World} {K : PySem.W.Frag} {mg : Str → Option Value} {base : Heap}
theorem ok_law (T : Txt K w mg) {f : Addr} {fd : FuncData} (F : Fun K "law" "law" s_law f fd) : FnOk P w K mg base CX0 5 f fd ["_law_script"] (spLaw K) := by
  refine F.ok sc_law (fun vs H Q E h => ?_) (fun cdv A outer s H vs Q E hr h => ?_)
  · obtain ⟨a, ns, rfl, _⟩ := h
    rfl
  · obtain ⟨a, ns, rfl, hS, hlen, q⟩ := h
    refine ⟨_, (pss_cons (ps_for PassesOwn.never rfl (pi_range1 (by rfl) T.m_range (pa_cons (pe_callB (call_max2 rfl) (by rfl) T.m_max (by decide +kernel) (pa_cons pe_int (pa_cons (pe_callB (call_min2 rfl) (by rfl) T.m_min (by decide +kernel) (pa_cons pe_int (pa_cons (pe_callB call_len_seq (by rfl) T.m_len (by decide +kernel) (pa_cons (pv 0) pa_nil)) pa_nil))) pa_nil))) pa_nil)) (pg_name (i := 1) sc_law.nd rfl (.inl rfl))
 (pss_cons (ps_set (i := 2) sc_law.nd rfl (.inl rfl) (pe_call (ok__law_box T) (hr.mono (by decide)) (by rfl) T.g__law_box T.F__law_box.kp T.b__law_box .nil pass0 (pa_cons (pv 0) (pa_cons (pv 1) pa_nil))))
 (pss_cons (ps_set (i := 3) sc_law.nd rfl (.inl rfl) (pe_call (ok__law_engine T) (hr.mono (by decide)) (by rfl) T.g__law_engine T.F__law_engine.kp T.b__law_engine .nil pass0 (pa_cons (pv 2) (pa_cons pe_int (pa_cons pe_int pa_nil)))))
 (pss_cons (ps_set (i := 4) sc_law.nd rfl (.inl rfl) (pe_callB call_len_seq (by rfl) T.m_len (by decide +kernel) (pa_cons (pe_ix ix_tup (pv 3) pe_int (fun _ _ => rfl)) pa_nil)))
 (pss_cons (ps_par3 (i := 5) (j := 6) (l := 7) (by rfl) sc_law.nd rfl rfl rfl (by decide) (by decide) (by decide) rfl rfl rfl (pa_cons (pe_tup (pa_cons (pe_call (ok__law_walked T) (hr.mono (by decide)) (by rfl) T.g__law_walked T.F__law_walked.kp T.b__law_walked .nil pass0 (pa_cons (pv 3) (pa_cons (pe_op op_sub pe_int pe_int) (pa_cons pe_int pa_nil)))) (pa_cons (pe_ix ix_tup (pv 3) pe_int (fun _ _ => rfl)) pa_nil))) (pa_cons pe_int (pa_cons (pv 3) pa_nil))) (by rfl))
 (pss_cons (ps_for PassesOwn.never rfl (pi_range1 (by rfl) T.m_range (pa_cons pe_int pa_nil)) (pg_name (i := 8) sc_law.nd rfl (.inl rfl))
 (Evl.pss_cut (ps_if (PW.pt (pw_or (pt_cmpR op_gt (pv 6) pe_int (nomark _)) (pw_or (pt_cmpR op_lt (pv 6) (pe_op op_sub pe_int pe_int) (nomark _)) (pw_or1 (pt_cmpR op_eq (pe_call (ok__law_take T) (hr.mono (by decide)) (by rfl) T.g__law_take T.F__law_take.kp T.b__law_take .nil pass0 (pa_cons (pv 2) (pa_cons pe_int pa_nil))) pe_int (nomark _))))))
 (pss_one (ps_set (i := 7) sc_law.nd rfl (.inl rfl) (pe_call (ok_turned_by_hand T) (hr.mono (by decide)) (by rfl) T.g_turned_by_hand T.F_turned_by_hand.kp T.b_turned_by_hand .nil pass0 (pa_cons (pv 7) pa_nil))))
 pss_nil)
 (pss_cons (ps_set (i := 9) sc_law.nd rfl (.inl rfl) (pe_ix ix_tup (pv 7) pe_int (fun _ _ => rfl)))
 (pss_cons (ps_par (i := 7) (j := 6) (by rfl) sc_law.nd rfl rfl (by decide) rfl rfl (pa_cons (pe_call (ok_gone_on T) (hr.mono (by decide)) (by rfl) T.g_gone_on T.F_gone_on.kp T.b_gone_on .nil pass0 (pa_cons (pv 7) pa_nil)) (pa_cons (pe_op op_add (pv 6) (pv 9)) pa_nil)) (by rfl))
 (pss_one (ps_if (pt_not (pt_val (pe_call (ok__law_lies_right T) (hr.mono (by decide)) (by rfl) T.g__law_lies_right T.F__law_lies_right.kp T.b__law_lies_right .nil pass0 (pa_cons (pv 7) (pa_cons (pv 5) (pa_cons (pv 4) (pa_cons (pv 6) pa_nil)))))))
 (pss_one (ps_ret pe_bl))
 pss_nil))))))
 (Evl.pss_cut (ps_if (pt_cmpR op_gt (pe_op op_mul (pe_ix ix_tup (pv 7) pe_int (fun _ _ => rfl)) (pv 6)) pe_int (nomark _))
 (pss_one (ps_set (i := 7) sc_law.nd rfl (.inl rfl) (pe_call (ok_turned_by_hand T) (hr.mono (by decide)) (by rfl) T.g_turned_by_hand T.F_turned_by_hand.kp T.b_turned_by_hand .nil pass0 (pa_cons (pv 7) pa_nil))))
 pss_nil)
 (pss_cons (ps_for PassesOwn.never rfl (pi_range1 (by rfl) T.m_range (pa_cons (pe_callB (call_max2 rfl) (by rfl) T.m_max (by decide +kernel) (pa_cons (pv 6) (pa_cons (pe_op op_sub pe_int (pv 6)) pa_nil))) pa_nil)) (pg_name (i := 8) sc_law.nd rfl (.inl rfl))
 (pss_one (ps_set (i := 7) sc_law.nd rfl (.inl rfl) (pe_call (ok_gone_on T) (hr.mono (by decide)) (by rfl) T.g_gone_on T.F_gone_on.kp T.b_gone_on .nil pass0 (pa_cons (pv 7) pa_nil)))))
 (pss_one (ps_if (pt_cmpR (op_neD hr.units) (pe_op op_catA (pe_slice sl_tupA (pv 7) po_none (po_some pe_int)) (pe_slice sl_tupA (pv 7) (po_some pe_int) po_none)) (pe_op op_catA (pe_slice sl_tupA (pv 3) po_none (po_some pe_int)) (pe_slice sl_tupA (pv 3) (po_some pe_int) po_none)) (nomark _))
 (pss_one (ps_ret pe_bl))
 pss_nil))))))))))
 (pss_one (ps_ret pe_bl))), ?_⟩
    have hr0 := lawRange (n := (ns.map V.int).length) 5 (by decide) (by decide)
    refine ⟨.ref a, rfl, a, _, rfl, .inl hS, 5, _, rfl, 2, _, rfl, _, rfl, by omega, by omega, for_range (lo := 0) (fun i σ H' => ∃ y1 y2 y3 y4 y5 y6 y7 y8 y9, σ = [some (.ref a), y1, y2, y3, y4, y5, y6, y7, y8, y9] ∧ SqL K H' a (ns.map V.int)) ⟨none, none, none, none, none, none, none, none, none, rfl, hS⟩ (fun i σ H' hi hP => ?_) (fun σ H' hP => q H')⟩
    obtain ⟨y1, y2, y3, y4, y5, y6, y7, y8, y9, rfl, hS'⟩ := hP
    refine ⟨.ref a, rfl, .int (0 + (i : Int)), rfl, a, ns, _, rfl, hS', by omega, by omega, fun b H1 nb s1 hb1 => ?_⟩
    have keep := script_keep hS' nb
    have hS1 := s1.seq hS'
    refine ⟨.ref b, rfl, b, 12, 6, rfl, hb1, by decide, by decide, by decide, by decide, fun v H2 x y w look rs D _ _ _ _ _ e2 hb2 hd => ?_⟩
    have hS2 := keep _ _ e2 hS1
    have hn0 : 0 < rs.length := List.length_pos_iff.mpr D.ne
    have ln12 := D.ln
    obtain ⟨av, rv, xv, rfl, hsv, hrv, hxv⟩ := eng_at hd
    have lv : xv.length = rs.length := by rw [hxv.length, List.length_map]
    -- many
    refine ⟨.ref av, rfl, av, _, 4, .ref rv, rfl, rfl, hsv, rfl, rv, xv, rfl, .inr hrv, ?_⟩
    rw [lv]
    -- road, at, here
    refine ⟨.ref av, rfl, 0, 60, rfl, rfl, .ref av, x, y, w, look, rs, rfl, hd, D.w0, D.w3, D.ne, by omega, fun L xs H3 s3 nL hL hxs => ?_⟩
    refine ⟨.ref av, rfl, av, _, 4, .ref rv, rfl, rfl, tk_seq (tk_same s3) hsv, rfl, by show 2 ≤ sizeLine; decide, fun t nt => ?_⟩
    refine ⟨.ref av, rfl, _, _, _, rfl, ?_⟩
    have st := same_new (o := HO.tup [.ref L, .ref rv]) nt
    have nLb : L ≠ b := fun z => by
      obtain ⟨_, _, _, h0⟩ := hb2
      rw [z, h0] at nL
      cases nL
    have R0 : Road K (upd H3 t (.tup [.ref L, .ref rv])) t L (.ref rv) xs rs ((x, y), w) := ⟨SqT.of upd_same, st _ _ hL, hxs.up (tk_same st), (DT.tup hrv hxv).up (tk_same (s3.trans st))⟩
    have hv0 : DT K (upd H3 t (.tup [.ref L, .ref rv])) (.ref av) (eng x y w look rs) := hd.up (tk_same (s3.trans st))
    refine ⟨40, rfl, by decide, by decide, for_range (lo := 0) (n := 40) (fun j σ H' => ∃ lk vh at_ y8 y9, σ = [some (.ref a), some (.int (0 + (i : Int))), some (.ref b), some (.ref av), some (.int (rs.length : Int)), some (.ref t), some (.int at_), some vh, y8, y9] ∧
      SqL K H' a (ns.map V.int) ∧ Box H' b ∧ Road K H' t L (.ref rv) xs rs ((x, y), w) ∧ DT K H' (.ref av) (eng x y w look rs) ∧ DT K H' vh (engAt rs ((x, y), w) lk at_) ∧ (lk = 1 ∨ lk = -1) ∧ -25 ≤ at_ ∧ at_ ≤ 25 ∧ (at_ = 25 → lk = 1) ∧ (at_ = -25 → lk = -1)) ?_ (fun j σ H4 hj hP => ?_) (fun σ H4 hP => ?_)⟩
    · refine ⟨look, .ref av, 0, _, _, rfl, (s3.trans st).seq hS2, hb2.same (s3.trans st), R0, hv0, ?_, D.lk, by decide, by decide, fun z => by omega, fun z => by omega⟩
      rw [engAt_zero]
      exact hv0
    · obtain ⟨lk, vh, at_, y8, y9, rfl, hS4, hb4, R4, hv4, hd4, hk, k1, k2, k3, k4⟩ := hP
      -- turned or not
      refine ⟨fun σ H' => ∃ lk' vh', σ = [some (.ref a), some (.int (0 + (i : Int))), some (.ref b), some (.ref av), some (.int (rs.length : Int)), some (.ref t), some (.int at_), some vh', some (.int (0 + (j : Int))), y9] ∧
        SqL K H' a (ns.map V.int) ∧ Box H' b ∧ Road K H' t L (.ref rv) xs rs ((x, y), w) ∧ DT K H' (.ref av) (eng x y w look rs) ∧ DT K H' vh' (engAt rs ((x, y), w) lk' at_) ∧ (lk' = 1 ∨ lk' = -1) ∧ (at_ = 25 → lk' = -1) ∧ (at_ = -25 → lk' = 1), ?_, ?_⟩
      · refine ⟨.int at_, rfl, at_, 24, rfl, rfl, _, rfl, ite2 (fun e => ?_) (fun e => ?_)⟩
        · have h24 := of_decide_eq_true e
          refine ⟨vh, rfl, vh, _, _, _, lk, rot rs at_, rfl, hd4, fun v5 H5 s5 d5 => ?_⟩
          exact ⟨-lk, v5, rfl, s5.seq hS4, hb4.same s5, R4.same s5, hv4.up (tk_same s5), d5, by omega, fun z => by have := k3 z; omega, fun z => by omega⟩
        · refine ⟨.int at_, rfl, 0, 24, rfl, rfl, at_, _, rfl, rfl, _, rfl, ite2 (fun e2 => ?_) (fun e2 => ?_)⟩
          · have h24 := of_decide_eq_true e2
            refine ⟨vh, rfl, vh, _, _, _, lk, rot rs at_, rfl, hd4, fun v5 H5 s5 d5 => ?_⟩
            exact ⟨-lk, v5, rfl, s5.seq hS4, hb4.same s5, R4.same s5, hv4.up (tk_same s5), d5, by omega, fun z => by omega, fun z => by have := k4 z; omega⟩
          · have f1 : ¬ (24 : Int) < at_ := fun z => e (decide_eq_true z)
            have f2 : ¬ at_ < (0 - 24 : Int) := fun z => e2 (decide_eq_true z)
            refine ⟨.ref b, rfl, b, 8, rfl, hb4, by decide, by decide, fun r5 H5 a1 a2 e5 hb5 => ?_⟩
            have hS5 := keep _ _ e5 hS4
            have R5 := R4.but hb4 nLb e5
            have hv5 := e5.up hb4 hv4
            have hd5 := e5.up hb4 hd4
            refine ⟨rfl, _, rfl, ite2 (fun _ => ?_) (fun _ => ?_)⟩
            · refine ⟨vh, rfl, vh, _, _, _, lk, rot rs at_, rfl, hd5, fun v6 H6 s6 d6 => ?_⟩
              exact ⟨-lk, v6, rfl, s6.seq hS5, hb5.same s6, R5.same s6, hv5.up (tk_same s6), d6, by omega, fun z => by omega, fun z => by omega⟩
            · exact ⟨lk, vh, rfl, hS5, hb5, R5, hv5, hd5, hk, fun z => by omega, fun z => by omega⟩
      · rintro σ H5 ⟨lk', vh', rfl, hS5, hb5, R5, hv5, hd5, hk', k5, k6⟩
        obtain ⟨ah, rh, xh, rfl, hsh, hrh, hxh⟩ := eng_at hd5
        refine ⟨.ref ah, rfl, ah, _, 3, .int lk', rfl, rfl, hsh, rfl, ?_⟩
        refine ⟨.ref ah, rfl, .ref ah, _, _, _, lk', rot rs at_, rfl, hd5, fun z => by have := rot_len rs at_; rw [z] at this; simp at this; omega, by rw [rot_len]; omega, fun v6 H6 s6 f6 g6 => ?_⟩
        refine ⟨.int at_, rfl, .int lk', rfl, at_, lk', rfl, rfl, _, _, rfl, ?_⟩
        have hd6 := gone_at (p := ((x, y), w)) D.w0 D.w3 D.ne hk' f6 g6
        refine ⟨v6, rfl, .ref t, rfl, .int (rs.length : Int), rfl, .int (at_ + lk'), rfl, v6, t, L, .ref rv, xs, rs, ((x, y), w), lk', at_ + lk', rfl, R5.same s6, hd6, D.w0, D.w3, D.ne, ln12, by omega, by omega, fun H7 s7 => ⟨true, rfl, iteF ?_⟩⟩
        exact ⟨lk', v6, at_ + lk', _, _, rfl, (s6.trans s7).seq hS5, hb5.same (s6.trans s7), R5.same (s6.trans s7), hv5.up (tk_same (s6.trans s7)), hd6.up (tk_same s7), hk', by omega, by omega, fun z => by omega, fun z => by omega⟩
    · obtain ⟨lk, vh, at_, y8, y9, rfl, hS4, hb4, R4, hv4, hd4, hk, k1, k2, k3, k4⟩ := hP
      refine ⟨fun σ H' => ∃ lk' vh', σ = [some (.ref a), some (.int (0 + (i : Int))), some (.ref b), some (.ref av), some (.int (rs.length : Int)), some (.ref t), some (.int at_), some vh', y8, y9] ∧
        SqL K H' a (ns.map V.int) ∧ DT K H' (.ref av) (eng x y w look rs) ∧ DT K H' vh' (engAt rs ((x, y), w) lk' at_) ∧ (lk' = 1 ∨ lk' = -1) ∧ (0 < at_ → lk' = -1) ∧ (at_ < 0 → lk' = 1), ?_, ?_⟩
      · obtain ⟨ah, rh, xh, rfl, hsh, hrh, hxh⟩ := eng_at hd4
        refine ⟨.ref ah, rfl, ah, _, 3, .int lk, rfl, rfl, hsh, rfl, .int at_, rfl, lk, at_, rfl, rfl, .inl (by rcases hk with rfl | rfl <;> decide), _, 0, rfl, rfl, _, rfl, ite2 (fun e => ?_) (fun e => ?_)⟩
        · have h0 := of_decide_eq_true e
          refine ⟨.ref ah, rfl, .ref ah, _, _, _, lk, rot rs at_, rfl, hd4, fun v5 H5 s5 d5 => ?_⟩
          refine ⟨-lk, v5, rfl, s5.seq hS4, hv4.up (tk_same s5), d5, by omega, fun z => ?_, fun z => ?_⟩
          · rcases hk with rfl | rfl <;> omega
          · rcases hk with rfl | rfl <;> omega
        · have h0 : ¬ (0 : Int) < lk * at_ := fun z => e (decide_eq_true z)
          refine ⟨lk, .ref ah, rfl, hS4, hv4, hd4, hk, fun z => ?_, fun z => ?_⟩
          · rcases hk with rfl | rfl <;> omega
          · rcases hk with rfl | rfl <;> omega
      · rintro σ H5 ⟨lk', vh', rfl, hS5, hv5, hd5, hk', k5, k6⟩
        have mx := max_in at_ k1 k2
        refine ⟨.int at_, rfl, .int at_, rfl, 0, at_, rfl, rfl, _, _, rfl, _, rfl, mx.1, mx.2, for_range (lo := 0) (fun m σ H' => ∃ vm y8 y9, σ = [some (.ref a), some (.int (0 + (i : Int))), some (.ref b), some (.ref av), some (.int (rs.length : Int)), some (.ref t), some (.int at_), some vm, y8, y9] ∧
          SqL K H' a (ns.map V.int) ∧ DT K H' (.ref av) (eng x y w look rs) ∧ DT K H' vm (engAt rs ((x, y), w) lk' (at_ + (m : Int) * lk'))) ⟨vh', _, _, rfl, hS5, hv5, by rw [show at_ + ((0 : Nat) : Int) * lk' = at_ by omega]; exact hd5⟩ (fun m σ H6 hm hP => ?_) (fun σ H6 hP => ?_)⟩
        · obtain ⟨vm, y8, y9, rfl, hS6, hv6, hd6⟩ := hP
          refine ⟨vm, rfl, vm, _, _, _, lk', rot rs (at_ + (m : Int) * lk'), rfl, hd6, fun z => by have := rot_len rs (at_ + (m : Int) * lk'); rw [z] at this; simp at this; omega, by rw [rot_len]; omega, fun v7 H7 s7 f7 g7 => ?_⟩
          have hd7 := gone_at (p := ((x, y), w)) D.w0 D.w3 D.ne hk' f7 g7
          rw [show at_ + (m : Int) * lk' + lk' = at_ + ((m + 1 : Nat) : Int) * lk' by rcases hk' with rfl | rfl <;> omega] at hd7
          exact ⟨v7, _, _, rfl, s7.seq hS6, hv6.up (tk_same s7), hd7⟩
        · obtain ⟨vm, y8, y9, rfl, hS6, hv6, hd6⟩ := hP
          rw [max_end at_ lk' hk' k5 k6, engAt_zero] at hd6
          have hm' : DT K H6 vm (.tuple [.int x, .int y, .int w, .int lk', .tuple (rs.map rail)]) := hd6
          have hv' : DT K H6 (.ref av) (.tuple [.int x, .int y, .int w, .int look, .tuple (rs.map rail)]) := hv6
          refine ⟨vm, rfl, 3, rfl, r_slA hm' fun v1 H7 s7 d1 => ?_⟩
          refine ⟨vm, rfl, 4, rfl, r_np (r_slA (hm'.up (tk_same s7)) fun v2 H8 s8 d2 => ?_)⟩
          have c1 : ∀ l : Int, cutD [.int x, .int y, .int w, .int l, .tuple (rs.map rail)] none (some 3) = [.int x, .int y, .int w] := fun _ => rfl
          have c2 : ∀ l : Int, cutD [.int x, .int y, .int w, .int l, .tuple (rs.map rail)] (some 4) none = [.tuple (rs.map rail)] := fun _ => rfl
          rw [c1] at d1
          rw [c2] at d2
          refine r_catA (d1.up (tk_same s8)) d2 (by show 3 + 1 ≤ 1000; decide) fun v3 H9 s9 d3 => ?_
          have s69 := (s7.trans s8).trans s9
          refine ⟨.ref av, rfl, 3, rfl, r_slA (hv'.up (tk_same s69)) fun v4 H10 s10 d4 => ?_⟩
          refine ⟨.ref av, rfl, 4, rfl, r_np (r_slA (hv'.up (tk_same (s69.trans s10))) fun v5 H11 s11 d5 => ?_)⟩
          rw [c1] at d4
          rw [c2] at d5
          refine r_catA (d4.up (tk_same s11)) d5 (by show 3 + 1 ≤ 1000; decide) fun v6 H12 s12 d6 => ?_
          have sh : SeqAt.shaped (.tuple ([.int x, .int y, .int w] ++ [.tuple (rs.map rail)])) = true := by
            refine shaped_pls _ ?_ ?_
            · show PyData.canLayAll0 [.int x, .int y, .int w, .tuple (rs.map rail)] = true
              rw [PyData.canLayAll0, PyData.canLayAll0, PyData.canLayAll0, PyData.canLayAll0, PyData.canLayAll0, PyData.canLay0, PyData.canLay0, PyData.canLay0, PyData.canLay0, lay_rails]
              rfl
            · have h1 := dep_rails rs
              show PyData.depthAll [.int x, .int y, .int w, .tuple (rs.map rail)] ≤ 10
              rw [PyData.depthAll, PyData.depthAll, PyData.depthAll, PyData.depthAll, PyData.depthAll, PyData.depth, PyData.depth, PyData.depth, PyData.depth]
              omega
          refine ⟨_, _, (d3.up (tk_same ((s10.trans s11).trans s12))).dp, d6.dp, sh, sh, _, rfl, iteNe (eqv_ok _ sh) ?_⟩
          exact ⟨_, _, _, _, _, _, _, _, _, rfl, (s69.trans ((s10.trans s11).trans s12)).seq hS6⟩
end
theorem all_mk {l : PySem.W.OpenLaw} {w : World} {K : PySem.W.Frag} {h : Heap} {mg : Str → Option Value} {fa : Addr} (X : K.In h) (G : h.Ns mainGlobals mg) (hfa : mg "law" = some (.ref fa))
    {od0 an0 : Option Addr} {sl0 : Array (Option Value)} {oc0 kV0 dc0 pm0 cd0 ct0 : Value} {f0 : Addr}
    {od1 an1 : Option Addr} {sl1 : Array (Option Value)} {oc1 kV1 dc1 pm1 cd1 ct1 : Value} {f1 : Addr}
    {od2 an2 : Option Addr} {sl2 : Array (Option Value)} {oc2 kV2 dc2 pm2 cd2 ct2 : Value} {f2 : Addr}
    {od4 an4 : Option Addr} {sl4 : Array (Option Value)} {oc4 kV4 dc4 pm4 cd4 ct4 : Value} {f4 : Addr}
    {od5 an5 : Option Addr} {sl5 : Array (Option Value)} {oc5 kV5 dc5 pm5 cd5 ct5 : Value} {f5 : Addr}
    {od6 an6 : Option Addr} {sl6 : Array (Option Value)} {oc6 kV6 dc6 pm6 cd6 ct6 : Value} {f6 : Addr}
    {od7 an7 : Option Addr} {sl7 : Array (Option Value)} {oc7 kV7 dc7 pm7 cd7 ct7 : Value} {f7 : Addr}
    {od8 an8 : Option Addr} {sl8 : Array (Option Value)} {oc8 kV8 dc8 pm8 cd8 ct8 : Value} {f8 : Addr}
    {od9 an9 : Option Addr} {sl9 : Array (Option Value)} {oc9 kV9 dc9 pm9 cd9 ct9 : Value} {f9 : Addr}
    {od10 an10 : Option Addr} {sl10 : Array (Option Value)} {oc10 kV10 dc10 pm10 cd10 ct10 : Value} {f10 : Addr}
    {od11 an11 : Option Addr} {sl11 : Array (Option Value)} {oc11 kV11 dc11 pm11 cd11 ct11 : Value} {f11 : Addr}
    {od12 an12 : Option Addr} {sl12 : Array (Option Value)} {oc12 kV12 dc12 pm12 cd12 ct12 : Value} {f12 : Addr}
    {od13 an13 : Option Addr} {sl13 : Array (Option Value)} {oc13 kV13 dc13 pm13 cd13 ct13 : Value} {f13 : Addr}
    {od14 an14 : Option Addr} {sl14 : Array (Option Value)} {oc14 kV14 dc14 pm14 cd14 ct14 : Value} {f14 : Addr}
    {od15 an15 : Option Addr} {sl15 : Array (Option Value)} {oc15 kV15 dc15 pm15 cd15 ct15 : Value} {f15 : Addr}
    {od16 an16 : Option Addr} {sl16 : Array (Option Value)} {oc16 kV16 dc16 pm16 cd16 ct16 : Value} {f16 : Addr}
    {od17 an17 : Option Addr} {sl17 : Array (Option Value)} {oc17 kV17 dc17 pm17 cd17 ct17 : Value} {f17 : Addr}
    {tA : Addr} {tes : Array DictEntry} {tnn : Nat} {tt1 tt2 tt3 : Tok}
    {sA sB0 sB1 sB2 sB3 : Addr} {sd sd0 sd1 sd2 sd3 : Option Addr} {sn sn0 sn1 sn2 sn3 : Nat} {ss ss0 ss1 ss2 ss3 : Array (Option Value)} {su0 su1 su2 su3 sv0 sv1 sv2 sv3 : Tok}
    {oF oD : Addr} {ooc odc opm ocd oct : Value} {ood oan : Option Addr} {osl : Array (Option Value)} {otk : Tok}
    (a0 : PySem.W.nsIn K mainGlobals "way_on" = some (some (.ref f0)))
    (l0 : K.lookup f0 = some ⟨oc0, od0, .func (PySem.W.fnOf "way_on" "way_on" (defArgs s_way_on) (defBody s_way_on) (defScope s_way_on) .none kV0 dc0 pm0 an0 cd0 ct0), sl0⟩)
    (c0 : PySem.W.codeIn K cd0 "way_on" = true)
    (k0 : PySem.W.keepIn K (.ref f0) = true)
    (a1 : PySem.W.nsIn K mainGlobals "way_behind" = some (some (.ref f1)))
    (l1 : K.lookup f1 = some ⟨oc1, od1, .func (PySem.W.fnOf "way_behind" "way_behind" (defArgs s_way_behind) (defBody s_way_behind) (defScope s_way_behind) .none kV1 dc1 pm1 an1 cd1 ct1), sl1⟩)
    (c1 : PySem.W.codeIn K cd1 "way_behind" = true)
    (k1 : PySem.W.keepIn K (.ref f1) = true)
    (a2 : PySem.W.nsIn K mainGlobals "way_about" = some (some (.ref f2)))
    (l2 : K.lookup f2 = some ⟨oc2, od2, .func (PySem.W.fnOf "way_about" "way_about" (defArgs s_way_about) (defBody s_way_about) (defScope s_way_about) .none kV2 dc2 pm2 an2 cd2 ct2), sl2⟩)
    (c2 : PySem.W.codeIn K cd2 "way_about" = true)
    (k2 : PySem.W.keepIn K (.ref f2) = true)
    (a4 : PySem.W.nsIn K mainGlobals "walk" = some (some (.ref f4)))
    (l4 : K.lookup f4 = some ⟨oc4, od4, .func (PySem.W.fnOf "walk" "walk" (defArgs s_walk) (defBody s_walk) (defScope s_walk) .none kV4 dc4 pm4 an4 cd4 ct4), sl4⟩)
    (c4 : PySem.W.codeIn K cd4 "walk" = true)
    (k4 : PySem.W.keepIn K (.ref f4) = true)
    (a5 : PySem.W.nsIn K mainGlobals "squares_of" = some (some (.ref f5)))
    (l5 : K.lookup f5 = some ⟨oc5, od5, .func (PySem.W.fnOf "squares_of" "squares_of" (defArgs s_squares_of) (defBody s_squares_of) (defScope s_squares_of) .none kV5 dc5 pm5 an5 cd5 ct5), sl5⟩)
    (c5 : PySem.W.codeIn K cd5 "squares_of" = true)
    (k5 : PySem.W.keepIn K (.ref f5) = true)
    (a6 : PySem.W.nsIn K mainGlobals "gone_on" = some (some (.ref f6)))
    (l6 : K.lookup f6 = some ⟨oc6, od6, .func (PySem.W.fnOf "gone_on" "gone_on" (defArgs s_gone_on) (defBody s_gone_on) (defScope s_gone_on) .none kV6 dc6 pm6 an6 cd6 ct6), sl6⟩)
    (c6 : PySem.W.codeIn K cd6 "gone_on" = true)
    (k6 : PySem.W.keepIn K (.ref f6) = true)
    (a7 : PySem.W.nsIn K mainGlobals "gone_forward" = some (some (.ref f7)))
    (l7 : K.lookup f7 = some ⟨oc7, od7, .func (PySem.W.fnOf "gone_forward" "gone_forward" (defArgs s_gone_forward) (defBody s_gone_forward) (defScope s_gone_forward) .none kV7 dc7 pm7 an7 cd7 ct7), sl7⟩)
    (c7 : PySem.W.codeIn K cd7 "gone_forward" = true)
    (k7 : PySem.W.keepIn K (.ref f7) = true)
    (a8 : PySem.W.nsIn K mainGlobals "gone_back" = some (some (.ref f8)))
    (l8 : K.lookup f8 = some ⟨oc8, od8, .func (PySem.W.fnOf "gone_back" "gone_back" (defArgs s_gone_back) (defBody s_gone_back) (defScope s_gone_back) .none kV8 dc8 pm8 an8 cd8 ct8), sl8⟩)
    (c8 : PySem.W.codeIn K cd8 "gone_back" = true)
    (k8 : PySem.W.keepIn K (.ref f8) = true)
    (a9 : PySem.W.nsIn K mainGlobals "turned_by_hand" = some (some (.ref f9)))
    (l9 : K.lookup f9 = some ⟨oc9, od9, .func (PySem.W.fnOf "turned_by_hand" "turned_by_hand" (defArgs s_turned_by_hand) (defBody s_turned_by_hand) (defScope s_turned_by_hand) .none kV9 dc9 pm9 an9 cd9 ct9), sl9⟩)
    (c9 : PySem.W.codeIn K cd9 "turned_by_hand" = true)
    (k9 : PySem.W.keepIn K (.ref f9) = true)
    (a10 : PySem.W.nsIn K mainGlobals "_law_box" = some (some (.ref f10)))
    (l10 : K.lookup f10 = some ⟨oc10, od10, .func (PySem.W.fnOf "_law_box" "_law_box" (defArgs s__law_box) (defBody s__law_box) (defScope s__law_box) .none kV10 dc10 pm10 an10 cd10 ct10), sl10⟩)
    (c10 : PySem.W.codeIn K cd10 "_law_box" = true)
    (k10 : PySem.W.keepIn K (.ref f10) = true)
    (a11 : PySem.W.nsIn K mainGlobals "_law_take" = some (some (.ref f11)))
    (l11 : K.lookup f11 = some ⟨oc11, od11, .func (PySem.W.fnOf "_law_take" "_law_take" (defArgs s__law_take) (defBody s__law_take) (defScope s__law_take) .none kV11 dc11 pm11 an11 cd11 ct11), sl11⟩)
    (c11 : PySem.W.codeIn K cd11 "_law_take" = true)
    (k11 : PySem.W.keepIn K (.ref f11) = true)
    (a12 : PySem.W.nsIn K mainGlobals "_law_turned" = some (some (.ref f12)))
    (l12 : K.lookup f12 = some ⟨oc12, od12, .func (PySem.W.fnOf "_law_turned" "_law_turned" (defArgs s__law_turned) (defBody s__law_turned) (defScope s__law_turned) .none kV12 dc12 pm12 an12 cd12 ct12), sl12⟩)
    (c12 : PySem.W.codeIn K cd12 "_law_turned" = true)
    (k12 : PySem.W.keepIn K (.ref f12) = true)
    (a13 : PySem.W.nsIn K mainGlobals "_law_on" = some (some (.ref f13)))
    (l13 : K.lookup f13 = some ⟨oc13, od13, .func (PySem.W.fnOf "_law_on" "_law_on" (defArgs s__law_on) (defBody s__law_on) (defScope s__law_on) .none kV13 dc13 pm13 an13 cd13 ct13), sl13⟩)
    (c13 : PySem.W.codeIn K cd13 "_law_on" = true)
    (k13 : PySem.W.keepIn K (.ref f13) = true)
    (a14 : PySem.W.nsIn K mainGlobals "_law_engine" = some (some (.ref f14)))
    (l14 : K.lookup f14 = some ⟨oc14, od14, .func (PySem.W.fnOf "_law_engine" "_law_engine" (defArgs s__law_engine) (defBody s__law_engine) (defScope s__law_engine) .none kV14 dc14 pm14 an14 cd14 ct14), sl14⟩)
    (c14 : PySem.W.codeIn K cd14 "_law_engine" = true)
    (k14 : PySem.W.keepIn K (.ref f14) = true)
    (a15 : PySem.W.nsIn K mainGlobals "_law_walked" = some (some (.ref f15)))
    (l15 : K.lookup f15 = some ⟨oc15, od15, .func (PySem.W.fnOf "_law_walked" "_law_walked" (defArgs s__law_walked) (defBody s__law_walked) (defScope s__law_walked) .none kV15 dc15 pm15 an15 cd15 ct15), sl15⟩)
    (c15 : PySem.W.codeIn K cd15 "_law_walked" = true)
    (k15 : PySem.W.keepIn K (.ref f15) = true)
    (a16 : PySem.W.nsIn K mainGlobals "_law_lies_right" = some (some (.ref f16)))
    (l16 : K.lookup f16 = some ⟨oc16, od16, .func (PySem.W.fnOf "_law_lies_right" "_law_lies_right" (defArgs s__law_lies_right) (defBody s__law_lies_right) (defScope s__law_lies_right) .none kV16 dc16 pm16 an16 cd16 ct16), sl16⟩)
    (c16 : PySem.W.codeIn K cd16 "_law_lies_right" = true)
    (k16 : PySem.W.keepIn K (.ref f16) = true)
    (a17 : PySem.W.nsIn K mainGlobals "law" = some (some (.ref f17)))
    (l17 : K.lookup f17 = some ⟨oc17, od17, .func (PySem.W.fnOf "law" "law" (defArgs s_law) (defBody s_law) (defScope s_law) .none kV17 dc17 pm17 an17 cd17 ct17), sl17⟩)
    (c17 : PySem.W.codeIn K cd17 "law" = true)
    (k17 : PySem.W.keepIn K (.ref f17) = true)
    (z0 : PySem.W.nsIn K mainGlobals "int" = some none)
    (z1 : PySem.W.nsIn K mainGlobals "len" = some none)
    (z2 : PySem.W.nsIn K mainGlobals "list" = some none)
    (z3 : PySem.W.nsIn K mainGlobals "max" = some none)
    (z4 : PySem.W.nsIn K mainGlobals "min" = some none)
    (z5 : PySem.W.nsIn K mainGlobals "range" = some none)
    (z6 : PySem.W.nsIn K mainGlobals "tuple" = some none)
    (ta : PySem.W.nsIn K mainGlobals "TURNS" = some (some (.ref tA)))
    (tl : K.lookup tA = some ⟨.type "dict", none, .dict tes tnn, #[]⟩)
    (tk : PySem.W.KeysLit w.params tes.toList)
    (t1 : PySem.W.nsIn K tA "l" = some (some (.int (-1) tt1)))
    (t2 : PySem.W.nsIn K tA "s" = some (some (.int 0 tt2)))
    (t3 : PySem.W.nsIn K tA "r" = some (some (.int 1 tt3)))
    (sa : PySem.W.nsIn K mainGlobals "STEPS" = some (some (.ref sA)))
    (sl : K.lookup sA = some ⟨.type "tuple", sd, .seq #[.ref sB0, .ref sB1, .ref sB2, .ref sB3] sn, ss⟩)
    (s0 : K.lookup sB0 = some ⟨.type "tuple", sd0, .seq #[.int (0) su0, .int (1) sv0] sn0, ss0⟩)
    (s1 : K.lookup sB1 = some ⟨.type "tuple", sd1, .seq #[.int (1) su1, .int (0) sv1] sn1, ss1⟩)
    (s2 : K.lookup sB2 = some ⟨.type "tuple", sd2, .seq #[.int (0) su2, .int (-1) sv2] sn2, ss2⟩)
    (s3 : K.lookup sB3 = some ⟨.type "tuple", sd3, .seq #[.int (-1) su3, .int (0) sv3] sn3, ss3⟩)
    (oa : PySem.W.nsIn K mainGlobals "onward" = some (some (.ref oF)))
    (ol : K.lookup oF = some ⟨ooc, ood, .func (PySem.W.fnOf "onward" "onward" (defArgs s_onward) (defBody s_onward) (defScope s_onward) .none (.ref oD) odc opm oan ocd oct), osl⟩)
    (oc : PySem.W.codeIn K ocd "onward" = true)
    (ok : PySem.W.keepIn K (.ref oF) = true)
    (od : PySem.W.nsIn K oD "steps" = some (some (.int 1 otk)))
    : ∃ fd : FuncData, (∀ (s : Shared) (v : Value), BindsTo s fd ⟨[v], []⟩ [("_law_script", v)]) ∧ ∀ base : Heap, K.In base → base.Ns mainGlobals mg → FnOk l.prog w K mg base CX0 5 fa fd ["_law_script"] (spLaw K) := by
  have e := hfa.symm.trans (PySem.W.mg_of X G a17)
  cases e
  have FO : FunD K "onward" "onward" (defArgs s_onward) (defBody s_onward) (defScope s_onward) [] [("steps", .int 1)] oF (PySem.W.fnOf "onward" "onward" (defArgs s_onward) (defBody s_onward) (defScope s_onward) .none (.ref oD) odc opm oan ocd oct) :=
    ⟨⟨_, _, _, _, _, _, _, _, _, _, rfl, ol, oc, .inl ⟨rfl, rfl⟩, .inr ⟨oD, rfl, fun q hq => by
      cases List.mem_singleton.mp hq
      exact ⟨_, od, ⟨_, rfl⟩⟩⟩⟩, ok⟩
  obtain ⟨ods, ovs, obs⟩ := FO.binds0 (ps := ["square", "way", "steps"]) 2 (by simp) rfl (fun D doc pm an cdv ct us ks h1 h2 => match us, ks, h1, h2 with
    | [_, _], [_], _, _ => ⟨_, _, _, _, _, _, rfl, rfl, rfl⟩)

  have T : Txt K w mg := { f_way_on := f0, fd_way_on := _, F_way_on := fun_mk (st := s_way_on) l0 c0 k0, b_way_on := (fun_mk (st := s_way_on) l0 c0 k0).binds (ps := ["way", "shape"]) (fun _ _ _ _ _ _ us hl => match us, hl with | [_, _], _ => rfl), g_way_on := PySem.W.mg_of X G a0, f_way_behind := f1, fd_way_behind := _, F_way_behind := fun_mk (st := s_way_behind) l1 c1 k1, b_way_behind := (fun_mk (st := s_way_behind) l1 c1 k1).binds (ps := ["way", "shape"]) (fun _ _ _ _ _ _ us hl => match us, hl with | [_, _], _ => rfl), g_way_behind := PySem.W.mg_of X G a1, f_way_about := f2, fd_way_about := _, F_way_about := fun_mk (st := s_way_about) l2 c2 k2, b_way_about := (fun_mk (st := s_way_about) l2 c2 k2).binds (ps := ["way"]) (fun _ _ _ _ _ _ us hl => match us, hl with | [_], _ => rfl), g_way_about := PySem.W.mg_of X G a2, f_walk := f4, fd_walk := _, F_walk := fun_mk (st := s_walk) l4 c4 k4, b_walk := (fun_mk (st := s_walk) l4 c4 k4).binds (ps := ["engine", "many"]) (fun _ _ _ _ _ _ us hl => match us, hl with | [_, _], _ => rfl), g_walk := PySem.W.mg_of X G a4, f_squares_of := f5, fd_squares_of := _, F_squares_of := fun_mk (st := s_squares_of) l5 c5 k5, b_squares_of := (fun_mk (st := s_squares_of) l5 c5 k5).binds (ps := ["engine"]) (fun _ _ _ _ _ _ us hl => match us, hl with | [_], _ => rfl), g_squares_of := PySem.W.mg_of X G a5, f_gone_on := f6, fd_gone_on := _, F_gone_on := fun_mk (st := s_gone_on) l6 c6 k6, b_gone_on := (fun_mk (st := s_gone_on) l6 c6 k6).binds (ps := ["engine"]) (fun _ _ _ _ _ _ us hl => match us, hl with | [_], _ => rfl), g_gone_on := PySem.W.mg_of X G a6, f_gone_forward := f7, fd_gone_forward := _, F_gone_forward := fun_mk (st := s_gone_forward) l7 c7 k7, b_gone_forward := (fun_mk (st := s_gone_forward) l7 c7 k7).binds (ps := ["engine"]) (fun _ _ _ _ _ _ us hl => match us, hl with | [_], _ => rfl), g_gone_forward := PySem.W.mg_of X G a7, f_gone_back := f8, fd_gone_back := _, F_gone_back := fun_mk (st := s_gone_back) l8 c8 k8, b_gone_back := (fun_mk (st := s_gone_back) l8 c8 k8).binds (ps := ["engine"]) (fun _ _ _ _ _ _ us hl => match us, hl with | [_], _ => rfl), g_gone_back := PySem.W.mg_of X G a8, f_turned_by_hand := f9, fd_turned_by_hand := _, F_turned_by_hand := fun_mk (st := s_turned_by_hand) l9 c9 k9, b_turned_by_hand := (fun_mk (st := s_turned_by_hand) l9 c9 k9).binds (ps := ["engine"]) (fun _ _ _ _ _ _ us hl => match us, hl with | [_], _ => rfl), g_turned_by_hand := PySem.W.mg_of X G a9, f__law_box := f10, fd__law_box := _, F__law_box := fun_mk (st := s__law_box) l10 c10 k10, b__law_box := (fun_mk (st := s__law_box) l10 c10 k10).binds (ps := ["_law_script", "_law_k"]) (fun _ _ _ _ _ _ us hl => match us, hl with | [_, _], _ => rfl), g__law_box := PySem.W.mg_of X G a10, f__law_take := f11, fd__law_take := _, F__law_take := fun_mk (st := s__law_take) l11 c11 k11, b__law_take := (fun_mk (st := s__law_take) l11 c11 k11).binds (ps := ["_law_box_here", "_law_many"]) (fun _ _ _ _ _ _ us hl => match us, hl with | [_, _], _ => rfl), g__law_take := PySem.W.mg_of X G a11, f__law_turned := f12, fd__law_turned := _, F__law_turned := fun_mk (st := s__law_turned) l12 c12 k12, b__law_turned := (fun_mk (st := s__law_turned) l12 c12 k12).binds (ps := ["_law_way", "_law_shape"]) (fun _ _ _ _ _ _ us hl => match us, hl with | [_, _], _ => rfl), g__law_turned := PySem.W.mg_of X G a12, f__law_on := f13, fd__law_on := _, F__law_on := fun_mk (st := s__law_on) l13 c13 k13, b__law_on := (fun_mk (st := s__law_on) l13 c13 k13).binds (ps := ["_law_square", "_law_way"]) (fun _ _ _ _ _ _ us hl => match us, hl with | [_, _], _ => rfl), g__law_on := PySem.W.mg_of X G a13, f__law_engine := f14, fd__law_engine := _, F__law_engine := fun_mk (st := s__law_engine) l14 c14 k14, b__law_engine := (fun_mk (st := s__law_engine) l14 c14 k14).binds (ps := ["_law_box_here", "_law_many", "_law_far"]) (fun _ _ _ _ _ _ us hl => match us, hl with | [_, _, _], _ => rfl), g__law_engine := PySem.W.mg_of X G a14, f__law_walked := f15, fd__law_walked := _, F__law_walked := fun_mk (st := s__law_walked) l15 c15 k15, b__law_walked := (fun_mk (st := s__law_walked) l15 c15 k15).binds (ps := ["_law_engine_here", "_law_first", "_law_last"]) (fun _ _ _ _ _ _ us hl => match us, hl with | [_, _, _], _ => rfl), g__law_walked := PySem.W.mg_of X G a15, f__law_lies_right := f16, fd__law_lies_right := _, F__law_lies_right := fun_mk (st := s__law_lies_right) l16 c16 k16, b__law_lies_right := (fun_mk (st := s__law_lies_right) l16 c16 k16).binds (ps := ["_law_engine_here", "_law_road", "_law_many", "_law_at"]) (fun _ _ _ _ _ _ us hl => match us, hl with | [_, _, _, _], _ => rfl), g__law_lies_right := PySem.W.mg_of X G a16, m_int := PySem.W.mg_none_of X G z0, m_len := PySem.W.mg_none_of X G z1, m_list := PySem.W.mg_none_of X G z2, m_max := PySem.W.mg_none_of X G z3, m_min := PySem.W.mg_none_of X G z4, m_range := PySem.W.mg_none_of X G z5, m_tuple := PySem.W.mg_none_of X G z6, a_TURNS := tA, g_TURNS := PySem.W.mg_of X G ta, TURNS := fun s => match s with | .l => ⟨tes, tnn, _, tl, tk, t1, ⟨_, rfl⟩⟩ | .s => ⟨tes, tnn, _, tl, tk, t2, ⟨_, rfl⟩⟩ | .r => ⟨tes, tnn, _, tl, tk, t3, ⟨_, rfl⟩⟩, a_STEPS := sA, g_STEPS := PySem.W.mg_of X G sa, STEPS := fun H => .tup (xs := [.ref sB0, .ref sB1, .ref sB2, .ref sB3]) (.inr ⟨_, _, _, sl, rfl, rfl, (show 4 ≤ sizeLine by decide), .cons rfl (.cons rfl (.cons rfl (.cons rfl .nil)))⟩) (.cons (.tup (xs := [.int (0), .int (1)]) (.inr ⟨_, _, _, s0, rfl, rfl, (show 2 ≤ sizeLine by decide), .cons ⟨_, rfl⟩ (.cons ⟨_, rfl⟩ .nil)⟩) (.cons (.int (0)) (.cons (.int (1)) .nil))) (.cons (.tup (xs := [.int (1), .int (0)]) (.inr ⟨_, _, _, s1, rfl, rfl, (show 2 ≤ sizeLine by decide), .cons ⟨_, rfl⟩ (.cons ⟨_, rfl⟩ .nil)⟩) (.cons (.int (1)) (.cons (.int (0)) .nil))) (.cons (.tup (xs := [.int (0), .int (-1)]) (.inr ⟨_, _, _, s2, rfl, rfl, (show 2 ≤ sizeLine by decide), .cons ⟨_, rfl⟩ (.cons ⟨_, rfl⟩ .nil)⟩) (.cons (.int (0)) (.cons (.int (-1)) .nil))) (.cons (.tup (xs := [.int (-1), .int (0)]) (.inr ⟨_, _, _, s3, rfl, rfl, (show 2 ≤ sizeLine by decide), .cons ⟨_, rfl⟩ (.cons ⟨_, rfl⟩ .nil)⟩) (.cons (.int (-1)) (.cons (.int (0)) .nil))) .nil)))), f_onward := oF, fd_onward := _, F_onward := FO, ds_onward := ods, v_onward := ovs, b_onward := obs, g_onward := PySem.W.mg_of X G oa }
  exact ⟨PySem.W.fnOf "law" "law" (defArgs s_law) (defBody s_law) (defScope s_law) .none kV17 dc17 pm17 an17 cd17 ct17, fun s v => .of_eq rfl, fun base _ _ => ok_law T (fun_mk (st := s_law) l17 c17 k17)⟩
end K06
open PySem PySem.W PyProof.Rows
set_option maxHeartbeats 0 in
theorem PySem.Challenge.cw_ownrail_k06_whole_gone_on_it_keeps_its_r_holds : PySem.Challenge.rw_ownrail_k06_whole_gone_on_it_keeps_its_r.Holds := by
  w_on; o_law; k_head; (case hw => w_witness2)
  k_fill
  refine L2.walk_of (l := PySem.Challenge.rw_ownrail_k06_whole_gone_on_it_keeps_its_r) (n := 63) (k := 5) (x := "_law_script") (CX := fun _ => L2.CX0) (sp := fun w => OR.spLaw _) rfl (by decide) rfl ⟨rfl, by decide, by decide⟩ (fun w h Y => PySem.W.kIn_of Y) ?F (fun _ _ a ns hl _ hS => ⟨a, ns, rfl, hS, hl, fun _ => rfl⟩) (fun _ _ _ _ _ h => h)
  case F =>
    intro w mg fa h KX G hmg
    refine' K06.all_mk KX G hmg ?a0 ?l0 ?c0 ?k0 ?a1 ?l1 ?c1 ?k1 ?a2 ?l2 ?c2 ?k2 ?a4 ?l4 ?c4 ?k4 ?a5 ?l5 ?c5 ?k5 ?a6 ?l6 ?c6 ?k6 ?a7 ?l7 ?c7 ?k7 ?a8 ?l8 ?c8 ?k8 ?a9 ?l9 ?c9 ?k9 ?a10 ?l10 ?c10 ?k10 ?a11 ?l11 ?c11 ?k11 ?a12 ?l12 ?c12 ?k12 ?a13 ?l13 ?c13 ?k13 ?a14 ?l14 ?c14 ?k14 ?a15 ?l15 ?c15 ?k15 ?a16 ?l16 ?c16 ?k16 ?a17 ?l17 ?c17 ?k17 ?z0 ?z1 ?z2 ?z3 ?z4 ?z5 ?z6 ?ta ?tl ?tk ?t1 ?t2 ?t3 ?sa ?sl ?s0 ?s1 ?s2 ?s3 ?oa ?ol ?oc ?ok ?od
    (case a0 => k_is)
    (case l0 => k_is)
    (case c0 => k_is)
    (case k0 => k_is)
    (case a1 => k_is)
    (case l1 => k_is)
    (case c1 => k_is)
    (case k1 => k_is)
    (case a2 => k_is)
    (case l2 => k_is)
    (case c2 => k_is)
    (case k2 => k_is)
    (case a4 => k_is)
    (case l4 => k_is)
    (case c4 => k_is)
    (case k4 => k_is)
    (case a5 => k_is)
    (case l5 => k_is)
    (case c5 => k_is)
    (case k5 => k_is)
    (case a6 => k_is)
    (case l6 => k_is)
    (case c6 => k_is)
    (case k6 => k_is)
    (case a7 => k_is)
    (case l7 => k_is)
    (case c7 => k_is)
    (case k7 => k_is)
    (case a8 => k_is)
    (case l8 => k_is)
    (case c8 => k_is)
    (case k8 => k_is)
    (case a9 => k_is)
    (case l9 => k_is)
    (case c9 => k_is)
    (case k9 => k_is)
    (case a10 => k_is)
    (case l10 => k_is)
    (case c10 => k_is)
    (case k10 => k_is)
    (case a11 => k_is)
    (case l11 => k_is)
    (case c11 => k_is)
    (case k11 => k_is)
    (case a12 => k_is)
    (case l12 => k_is)
    (case c12 => k_is)
    (case k12 => k_is)
    (case a13 => k_is)
    (case l13 => k_is)
    (case c13 => k_is)
    (case k13 => k_is)
    (case a14 => k_is)
    (case l14 => k_is)
    (case c14 => k_is)
    (case k14 => k_is)
    (case a15 => k_is)
    (case l15 => k_is)
    (case c15 => k_is)
    (case k15 => k_is)
    (case a16 => k_is)
    (case l16 => k_is)
    (case c16 => k_is)
    (case k16 => k_is)
    (case a17 => k_is)
    (case l17 => k_is)
    (case c17 => k_is)
    (case k17 => k_is)
    (case z0 => k_is)
    (case z1 => k_is)
    (case z2 => k_is)
    (case z3 => k_is)
    (case z4 => k_is)
    (case z5 => k_is)
    (case z6 => k_is)
    (case ta => k_is)
    (case tl => k_is)
    (case tk => k_keys)
    (case t1 => k_is)
    (case t2 => k_is)
    (case t3 => k_is)
    (case sa => k_is)
    (case sl => k_is)
    (case s0 => k_is)
    (case s1 => k_is)
    (case s2 => k_is)
    (case s3 => k_is)
    (case oa => k_is)
    (case ol => k_is)
    (case oc => k_is)
    (case ok => k_is)
    (case od => k_is)
