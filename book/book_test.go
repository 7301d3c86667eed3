package book

import (
	"slices"
	"sync/atomic"
	"testing"

	"pit/api"
)

func ids(l []api.Order) []int {
	var out []int
	for _, o := range l {
		out = append(out, o.Id)
	}
	return out
}

func filled(side int, prices ...int) *Book {
	b := New(new(atomic.Int64))
	for i, price := range prices {
		b.Enter(api.Order{Id: i + 1, Trader: 1, Book: 1, Side: side, Price: price, Open: 10}, api.Rest)
	}
	return b
}

func TestBestFirst(t *testing.T) {
	for _, c := range []struct {
		side int
		want []int
	}{
		{api.Buy, []int{3, 5, 1, 4, 2}},
		{api.Sell, []int{2, 1, 4, 3, 5}},
	} {
		b := filled(c.side, 100, 99, 101, 100, 101)
		if got := ids(b.Of(1)); !slices.Equal(got, c.want) {
			t.Errorf("side %d: %v, want %v", c.side, got, c.want)
		}
	}
}

func TestSidesAreApart(t *testing.T) {
	b := filled(api.Buy, 100)
	b.Enter(api.Order{Id: 2, Trader: 1, Book: 1, Side: api.Sell, Price: 90, Open: 7}, api.Rest)
	if got := ids(b.Of(1)); !slices.Equal(got, []int{1, 2}) {
		t.Errorf("Of(1) = %v", got)
	}
	if got := b.State(); got != (api.State{Phase: api.Gathering, Buys: 1, Sells: 1}) {
		t.Errorf("State() = %+v", got)
	}
}

func TestReopenKeepsThePlace(t *testing.T) {
	b := filled(api.Sell, 100, 100, 100)
	b.Reopen(2, 3)
	if got := ids(b.Of(1)); !slices.Equal(got, []int{1, 2, 3}) {
		t.Errorf("Of(1) = %v", got)
	}
	if o, ok := b.Order(2); !ok || o.Open != 3 {
		t.Errorf("Order(2) = %+v, %v", o, ok)
	}
}

func TestWhatDoesNotRest(t *testing.T) {
	b := filled(api.Buy, 100, 101)
	b.Remove(9)
	b.Reopen(9, 1)
	if got := ids(b.Of(1)); !slices.Equal(got, []int{2, 1}) {
		t.Errorf("Of(1) = %v", got)
	}
	if o, ok := b.Order(9); ok || o != (api.Order{}) {
		t.Errorf("Order(9) = %+v, %v", o, ok)
	}
	if got := b.Of(2); len(got) != 0 {
		t.Errorf("Of(2) = %v", got)
	}
}

func TestFull(t *testing.T) {
	b := New(new(atomic.Int64))
	for i := range api.MaxResting {
		if b.full() {
			t.Fatalf("full with %d", i)
		}
		b.Enter(api.Order{Id: i + 1, Trader: 1, Book: 1, Side: api.Buy + i%2, Price: 100, Open: 1}, api.Rest)
	}
	if !b.full() {
		t.Fatalf("not full with %d", api.MaxResting)
	}
	b.Remove(7)
	if b.full() {
		t.Fatal("full with one gone")
	}
}

func TestDepthGathersByPrice(t *testing.T) {
	b := filled(api.Sell, 100, 99, 100)
	all := []api.Level{{Price: 99, Count: 10, Orders: 1}, {Price: 100, Count: 20, Orders: 2}}
	for most, want := range map[int][]api.Level{-1: all, 0: nil, 1: all[:1], 2: all, 3: all} {
		if got := b.Depth(api.Sell, most); !slices.Equal(got, want) {
			t.Errorf("Depth(Sell, %d) = %v, want %v", most, got, want)
		}
	}
	if got := b.Depth(api.Buy, -1); len(got) != 0 {
		t.Errorf("Depth(Buy, -1) = %v", got)
	}
}
