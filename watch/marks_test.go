package watch_test

import (
	"fmt"
	"math"
	"math/rand"
	"slices"
	"testing"

	"mailbag/api"
	"mailbag/watch"
)

// hold holds a mark, that is to have such a number.
func hold(t *testing.T, m *watch.Marks, mark, number int) {
	t.Helper()
	if n, e := m.Hold(mark); n != number || e != api.OK {
		t.Errorf("Hold(%d): %d, %d, not %d", mark, n, e, number)
	}
}

// wantNoHold holds a Hold to tell such an error, and no number.
func wantNoHold(t *testing.T, m *watch.Marks, mark int, e api.Errno) {
	t.Helper()
	if n, got := m.Hold(mark); n != 0 || got != e {
		t.Errorf("Hold(%d): %d, %d, not %d", mark, n, got, e)
	}
}

// wantMark holds a number to have such a mark.
func wantMark(t *testing.T, m *watch.Marks, n, mark int) {
	t.Helper()
	if got, is := m.Mark(n); got != mark || !is {
		t.Errorf("Mark(%d): %d, %t, not %d", n, got, is, mark)
	}
}

// wantNone holds nothing to be held by numbers.
func wantNone(t *testing.T, m *watch.Marks, numbers ...int) {
	t.Helper()
	for _, n := range numbers {
		if mark, is := m.Mark(n); mark != 0 || is {
			t.Errorf("Mark(%d): %d, %t", n, mark, is)
		}
		for _, mark := range []int{math.MinInt, 0, 5, math.MaxInt} {
			want(t, fmt.Sprintf("Move(%d, %d)", n, mark), m.Move(n, mark), api.ErrNone)
		}
		want(t, fmt.Sprintf("Drop(%d)", n), m.Drop(n), api.ErrNone)
	}
}

// wantLeast holds a Least to be such a one.
func wantLeast(t *testing.T, m *watch.Marks, most, least int) {
	t.Helper()
	if got := m.Least(most); got != least {
		t.Errorf("Least(%d): %d, not %d", most, got, least)
	}
}

// wantNoMarks holds nothing to be held, by whichever number.
func wantNoMarks(t *testing.T, m *watch.Marks) {
	t.Helper()
	wantNone(t, m, math.MinInt, -1, 0, 1, 2, watch.MaxMarks, math.MaxInt)
	for _, most := range []int{math.MinInt, -1, 0, 9, math.MaxInt} {
		wantLeast(t, m, most, most)
	}
}

// P17.2
func TestNew(t *testing.T) {
	wantNoMarks(t, watch.New())
	wantNoMarks(t, &watch.Marks{})
	a, b := watch.New(), watch.New()
	hold(t, a, 5, 1)
	wantNoMarks(t, b)
	hold(t, b, 3, 1)
	wantMark(t, a, 1, 5)
	var zero watch.Marks
	hold(t, &zero, 5, 1)
	wantMark(t, &zero, 1, 5)
}

// P17.2: each mark by a number of its own, none of them given twice.
func TestHold(t *testing.T) {
	m := watch.New()
	hold(t, m, 5, 1)
	hold(t, m, 0, 2)
	hold(t, m, 5, 3)
	hold(t, m, math.MinInt, 4)
	hold(t, m, math.MaxInt, 5)
	for i, mark := range []int{5, 0, 5, math.MinInt, math.MaxInt} {
		wantMark(t, m, i+1, mark)
	}
	wantNone(t, m, 0, -1, 6)
	want(t, "Drop(5)", m.Drop(5), api.OK)
	want(t, "Drop(1)", m.Drop(1), api.OK)
	hold(t, m, 7, 6)
	wantNone(t, m, 1, 5)
	for n := 2; n <= 6; n++ {
		if n != 5 {
			want(t, "Drop", m.Drop(n), api.OK)
		}
	}
	wantNoMarks(t, m)
	hold(t, m, 7, 7)
}

// P17.2: MaxMarks at once; a Hold that tells ErrLong gives no number.
func TestHoldMost(t *testing.T) {
	m := watch.New()
	for i := range watch.MaxMarks {
		hold(t, m, 100+i, i+1)
	}
	if watch.MaxMarks != 64 {
		t.Error(watch.MaxMarks)
	}
	wantNoHold(t, m, 0, api.ErrLong)
	wantNoHold(t, m, 100, api.ErrLong)
	wantLeast(t, m, 1000, 100)
	want(t, "Move", m.Move(1, 105), api.OK)
	wantNoHold(t, m, 0, api.ErrLong)
	want(t, "Drop", m.Drop(30), api.OK)
	hold(t, m, 3, 65)
	wantNoHold(t, m, 3, api.ErrLong)
	wantNone(t, m, 30, 66)
	want(t, "Drop", m.Drop(65), api.OK)
	hold(t, m, 4, 66)
	wantMark(t, m, 64, 163)
	wantLeast(t, m, 1000, 4)
}

// P17.2: a mark moves on, or stays, but never goes back.
func TestMove(t *testing.T) {
	m := watch.New()
	hold(t, m, 5, 1)
	hold(t, m, 8, 2)
	want(t, "to where it is", m.Move(1, 5), api.OK)
	want(t, "on", m.Move(1, 6), api.OK)
	wantMark(t, m, 1, 6)
	want(t, "back", m.Move(1, 5), api.ErrArg)
	want(t, "far back", m.Move(1, math.MinInt), api.ErrArg)
	wantMark(t, m, 1, 6)
	wantMark(t, m, 2, 8)
	want(t, "past another one", m.Move(1, 9), api.OK)
	want(t, "to the end", m.Move(2, math.MaxInt), api.OK)
	want(t, "below the end", m.Move(2, math.MaxInt-1), api.ErrArg)
	wantMark(t, m, 1, 9)
	wantMark(t, m, 2, math.MaxInt)
	wantNone(t, m, 3, 0, -1)
	hold(t, m, -5, 3)
	want(t, "below 0", m.Move(3, -4), api.OK)
	want(t, "back below 0", m.Move(3, -5), api.ErrArg)
	wantMark(t, m, 3, -4)
}

// P17.2
func TestDrop(t *testing.T) {
	m := watch.New()
	hold(t, m, 5, 1)
	hold(t, m, 5, 2)
	want(t, "Drop", m.Drop(1), api.OK)
	wantNone(t, m, 1)
	wantMark(t, m, 2, 5)
	wantLeast(t, m, 9, 5)
	want(t, "Drop", m.Drop(2), api.OK)
	wantNoMarks(t, m)
}

// P17.2: the least of most and all marks that are held.
func TestLeast(t *testing.T) {
	m := watch.New()
	hold(t, m, 7, 1)
	hold(t, m, 5, 2)
	hold(t, m, 6, 3)
	wantLeast(t, m, 9, 5)
	wantLeast(t, m, 5, 5)
	wantLeast(t, m, 4, 4)
	wantLeast(t, m, math.MaxInt, 5)
	wantLeast(t, m, math.MinInt, math.MinInt)
	want(t, "Move", m.Move(2, 10), api.OK)
	wantLeast(t, m, 9, 6)
	want(t, "Drop", m.Drop(3), api.OK)
	wantLeast(t, m, 9, 7)
	want(t, "Move", m.Move(1, 12), api.OK)
	wantLeast(t, m, 11, 10)
	wantLeast(t, m, 9, 9)
	hold(t, m, -3, 4)
	wantLeast(t, m, 0, -3)
}

// P17.2: nil Marks hold none.
func TestNilMarks(t *testing.T) {
	var m *watch.Marks
	wantNoHold(t, m, 0, api.ErrArg)
	wantNoHold(t, m, 5, api.ErrArg)
	wantNoMarks(t, m)
}

// heldMark is a mark and its number, as the model keeps it.
type heldMark struct{ n, mark int }

// P17.2: whatever is asked, in whichever order, Marks tell what a list of marks does.
func TestMarksModel(t *testing.T) {
	for seed := range int64(40) {
		r := rand.New(rand.NewSource(seed))
		m, list, last := watch.New(), []heldMark(nil), 0
		for range 1000 {
			n, mark := 1+r.Intn(last+2), r.Intn(50)
			at := slices.IndexFunc(list, func(h heldMark) bool { return h.n == n })
			switch op := r.Intn(10); {
			case op < 5 && len(list) == watch.MaxMarks:
				wantNoHold(t, m, mark, api.ErrLong)
			case op < 5:
				last++
				hold(t, m, mark, last)
				list = append(list, heldMark{last, mark})
			case at < 0:
				wantNone(t, m, n)
			case op == 5:
				wantMark(t, m, n, list[at].mark)
			case op == 6 && r.Intn(2) == 0:
				want(t, "Drop", m.Drop(n), api.OK)
				list = slices.Delete(list, at, at+1)
			case mark < list[at].mark:
				want(t, "Move", m.Move(n, mark), api.ErrArg)
			default:
				want(t, "Move", m.Move(n, mark), api.OK)
				list[at].mark = mark
			}
			least := 25
			for _, h := range list {
				least = min(least, h.mark)
				wantMark(t, m, h.n, h.mark)
			}
			wantLeast(t, m, 25, least)
		}
	}
}
