/-
  Bytes appended, numbers in eight bytes: of no package of the program. (Cut out of OText, OInt, OKey.)
-/
import Derived.Test.YtacphlceggbfcaaOwn
import Derived.Test.YtacphlceggbfcaaKeys
import Derived.Test.YtacphlceggbfcaaShelf
import Derived.Lib.Hide
import Derived.WalkLawsBesides
import Derived.WalkSpells
namespace Go.Proofs.Ytacphlceggbfcaa
open Go.RowKit

theorem infoB : (Try.prog.info? 5).map (fun i => (i.zero, i.size, i.bytes)) = some (some (.int .u8 0), 1, 1) := by kernel_rfl

/-- BYTES appended, as the walk meets it: the bytes lie in a new block of their own. -/
theorem wpList_appN {P : Program} (w : World) {ops : Array Oper} {rest : List Oper} {o : Oper} {a : Act} {Q : Exit → Act → World → Prop} (hgd : o.guard = none) (s x : Operand) (t : TypeId)
    (ho : o.op = .call { callee := .builtin .append, args := #[s, x], argTypes := #[t, t] })
    (E B : Nat) (ht : P.underlying t = some (.slice E)) (hi : (P.info? E).map (fun i => (i.zero, i.size, i.bytes)) = some (some (.int .u8 0), 1, 1))
    (v : Value) (l : List UInt8) (hs : a.eval s = v) (hown : Bs E B w v l) (news : List UInt8) (cs : Array Value) (hcs : cs = (Lib.byteCells news).toArray) (c : Nat)
    (hx : a.eval x = .slice (some ⟨w.heap.size, 0, none⟩) news.length c)
    (h63 : l.length + news.length < 140737488355328) (hbase : B ≤ w.heap.size)
    (h : ∀ v' w', Bs E B w' v' (l ++ news) → Up w v w' v' → wpList P ops Q rest (a.put o.dst v') w') :
    wpList P ops Q (o :: rest) a (w.alloc (.cells cs E)) := by
  subst hcs
  obtain ⟨i, hi, hz, hi1, hi2⟩ := info_parts hi
  have hn : ∀ j u, (Lib.byteCells news)[j]? = some u → (w.alloc (.cells (Lib.byteCells news).toArray E)).cell? ((⟨w.heap.size, 0, none⟩ : Addr).add j) = some u := by
    intro j u hj
    have e : ((⟨w.heap.size, 0, none⟩ : Addr).add j) = ⟨w.heap.size, j, none⟩ := by unfold Addr.add; by_cases h0 : j = 0 <;> simp [h0]
    rw [e, cell_of_row (w.alloc (.cells (Lib.byteCells news).toArray E)) w.heap.size j (Lib.byteCells news).toArray E (0, 0) (heap_alloc_new w _)]
    simpa using hj
  refine wpList_plain hgd fun K hK => ?_
  obtain ⟨v', w', hr, ho', hu⟩ := run_app (P := P) (w.alloc (.cells (Lib.byteCells news).toArray E)) B t o.type E i (.int .u8 0) 1 1 ht hi hz hi1 hi2 rfl (by decide) v l.length (Lib.byteCells l) (hown.alloc _)
    ⟨w.heap.size, 0, none⟩ news.length c (Lib.byteCells news) (by simp [Lib.byteCells]) hn (by intro u hu; simp [Lib.byteCells] at hu; obtain ⟨b, _, rfl⟩ := hu; rfl) (by unfold maxLen; omega) (by omega) (by simp; omega)
  unfold Oper.wp execOp
  simp only [ho, resolve, invoke, builtin, Sem.run_bind, Sem.run_pure, Result.andThen_ok, List.map_toArray, List.map_cons, List.map_nil, hs, hx, hr]
  refine hK _ _ (h v' w' ?_ hu.alloc)
  unfold Bs
  rw [Lib.byteCells_append, List.length_append]
  exact ho'

def LaidPost (B : Nat) (v : Value) (l : List UInt8) (w : World) (e : Ending) (w' : World) : Prop :=
  ∃ v', e = .returned v' ∧ Bs 5 B w' v' l ∧ Up w v w' v'

theorem xor_top (x : Nat) (h : x < 2 ^ 64) : x ^^^ 2 ^ 63 = (2 ^ 63 + x) % 2 ^ 64 := by
  apply Nat.eq_of_testBit_eq
  intro i
  rw [Nat.testBit_xor, Nat.testBit_mod_two_pow, Nat.testBit_two_pow]
  by_cases h1 : i < 64
  · by_cases h2 : i = 63
    · subst h2
      rw [Nat.testBit_two_pow_add_eq]
      simp
    · rw [Nat.testBit_two_pow_add_gt (by omega)]
      have h3 : ¬ 63 = i := by omega
      simp [h1, h3]
  · have h3 : x.testBit i = false := Nat.testBit_lt_two_pow (Nat.lt_of_lt_of_le h (Nat.pow_le_pow_right (by omega) (by omega)))
    have h4 : ¬ 63 = i := by omega
    simp [h1, h3, h4]

theorem xor_u64 (x : Nat) (h : x < 18446744073709551616) : bits .xor .u64 (x : Int) 9223372036854775808 = (((9223372036854775808 + x) % 18446744073709551616 : Nat) : Int) := by
  have hc : (BitVec.ofInt 64 9223372036854775808).toNat = 2 ^ 63 := by decide
  have hx : (BitVec.ofInt 64 (x : Int)).toNat = x := by
    rw [BitVec.ofInt_natCast, BitVec.toNat_ofNat]; exact Nat.mod_eq_of_lt h
  show IntKind.u64.wrap ((BitVec.ofInt 64 (x : Int) ^^^ BitVec.ofInt 64 9223372036854775808).toNat : Nat) = _
  rw [BitVec.toNat_xor, hc, hx, xor_top x h, IntKind.wrap_u64]
  omega

theorem xor_high (n : Int) (h : Is64 n) : bits .xor .u64 (IntKind.u64.wrap n) 9223372036854775808 = (((n + 9223372036854775808).toNat : Nat) : Int) := by
  unfold Is64 at h
  have e : IntKind.u64.wrap n = (((n % 18446744073709551616).toNat : Nat) : Int) := by rw [IntKind.wrap_u64]; omega
  rw [e, xor_u64 _ (by omega)]
  omega

theorem byte_shr8 (m e : Nat) : UInt8.ofNat (((m : Int) / 2 ^ (8 * e) % 256).toNat) = UInt8.ofNat (m / 256 ^ e) := by
  have h : ((m : Int) / 2 ^ (8 * e) % 256) = ((m / 256 ^ e % 256 : Nat) : Int) := by
    rw [pow256]; simp
  rw [h, Int.toNat_natCast]
  apply UInt8.toNat_inj.1
  simp

/-- 'string(v)' of what is owned. -/
theorem conv_bs {P : Program} (E B : Nat) (w : World) (src dst : TypeId) (hs : P.underlying src = some (.slice E)) (he : P.underlying E = some (.int .u8)) (hd : P.underlying dst = some .string) (v : Value) (l : List UInt8) (hown : Bs E B w v l) :
    (convert src dst v).run P w = .ok (.string ⟨l.toArray⟩) w := by
  rcases hown.2 with ⟨rfl, h0⟩ | ⟨g, cap, cur, rfl, _⟩
  · have : l = [] := List.eq_nil_of_length_eq_zero h0
    subst this
    exact run_convert_bytes_nil (P := P) w src E hs he 0 0 dst hd
  · exact run_convert_bytes_back (P := P) w src dst E _ cap l hs he hd fun j hj => World.ownsRow.cells hown (g := g) rfl j _ (by simp [Lib.byteCells, hj])

end Go.Proofs.Ytacphlceggbfcaa
