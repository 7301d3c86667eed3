package book

import (
	"slices"
	"sync/atomic"
	"testing"

	"pit/api"
)

func of(id, trader, side, price, open int) api.Order {
	return api.Order{Id: id, Trader: trader, Book: 1, Side: side, Price: price, Open: open}
}

// asked: a book that trades, with 3 of trader 1 to sell at 101, 4 of trader 2 at 102.
func asked(total *atomic.Int64) *Book {
	b := New(total)
	b.Open()
	b.Enter(of(1, 1, api.Sell, 101, 3), api.Rest)
	b.Enter(of(2, 2, api.Sell, 102, 4), api.Rest)
	return b
}

func TestOpenAt(t *testing.T) {
	s := asked(new(atomic.Int64)).side(api.Sell)
	for _, c := range [][3]int{{100, nobody, 0}, {101, nobody, 3}, {102, nobody, 7}, {102, 1, 4}, {102, 2, 3}, {101, 1, 0}} {
		if got := s.openAt(c[0], c[1]); got != c[2] {
			t.Errorf("openAt(%d, %d) = %d, want %d", c[0], c[1], got, c[2])
		}
	}
}

func TestBars(t *testing.T) {
	b := asked(new(atomic.Int64))
	for _, c := range []struct {
		kind, trader, price, open int
		want                      api.Errno
	}{
		{api.Rest, 9, 101, 1, api.OK}, {api.Any, 9, 0, 100, api.OK}, {api.Now, 9, 1, 100, api.OK},
		{api.Post, 9, 100, 1, api.OK}, {api.Post, 9, 101, 1, api.ErrMatch}, {api.Post, 1, 101, 1, api.ErrMatch},
		{api.Whole, 9, 102, 7, api.OK}, {api.Whole, 9, 102, 8, api.ErrMatch}, {api.Whole, 1, 102, 4, api.OK}, {api.Whole, 1, 102, 5, api.ErrMatch},
	} {
		if got := b.Bars(of(9, c.trader, api.Buy, c.price, c.open), c.kind); got != c.want {
			t.Errorf("%+v: Bars() = %d", c, got)
		}
	}
	b.Close()
	for kind := api.Any; kind <= api.Post; kind++ {
		if got := b.Bars(of(9, 9, api.Buy, 101, 1), kind); got != api.ErrPhase {
			t.Errorf("kind %d: Bars() = %d", kind, got)
		}
	}
}

// Two books count in one total, each on its own too.
func TestCounts(t *testing.T) {
	var total atomic.Int64
	one, other := asked(&total), asked(&total)
	one.Enter(of(9, 9, api.Buy, 102, 5), api.Now)
	other.Enter(of(9, 1, api.Buy, 102, 9), api.Any)
	if one.State().Traded != 5 || other.State().Traded != 4 || total.Load() != 9 {
		t.Errorf("%+v, %+v, %d in all", one.State(), other.State(), total.Load())
	}
}

func TestTurns(t *testing.T) {
	b := filled(api.Buy, 100, 102)
	b.Enter(of(3, 1, api.Sell, 99, 1), api.Rest)
	turns := b.turns()
	slices.Sort(turns)
	if !slices.Equal(turns, []int{99, 101, 103}) {
		t.Errorf("turns() = %v", turns)
	}
	if got := b.turnoutAt(100); got != (turnout{100, 1, 19}) {
		t.Errorf("turnoutAt(100) = %+v", got)
	}
	if got := b.opening(); got != (turnout{101, 1, 9}) {
		t.Errorf("opening() = %+v", got)
	}
}

func TestCompareOfOpenings(t *testing.T) {
	sorted := []turnout{{9, 5, 9}, {4, 4, 1}, {5, 4, 1}, {1, 4, 2}}
	for i := range sorted {
		for k := range sorted {
			if got := compare(sorted[i], sorted[k]); (got < 0) != (i < k) || (got == 0) != (i == k) {
				t.Errorf("compare(%v, %v) = %d", sorted[i], sorted[k], got)
			}
		}
	}
}
