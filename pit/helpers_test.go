package pit_test

import (
	"math"
	"reflect"
	"slices"
	"testing"

	"pit/api"
	"pit/pit"
)

// edges: numbers that lie around every bound, and far from all.
var edges = []int{
	math.MinInt, -1 << 62, -1, 0, 1, 2, 3, 5, 6, 7, 8, 9, 199, 200, 201, 1000, 1001,
	1000000, 1000001, 1000000000, 1000000001, 1 << 32, 1<<32 + 1, 1 << 62, math.MaxInt,
}

func order(id, trader, book, side, price, count int) api.Command {
	return api.Command{What: api.New, Id: id, Trader: trader, Book: book, Side: side, Kind: api.Rest, Price: price, Count: count}
}

func buy(id, price, count int) api.Command  { return order(id, 1, 1, api.Buy, price, count) }
func sell(id, price, count int) api.Command { return order(id, 1, 1, api.Sell, price, count) }

func cancel(id, trader int) api.Command {
	return api.Command{What: api.Cancel, Id: id, Trader: trader}
}

func change(id, trader, price, count int) api.Command {
	return api.Command{What: api.Change, Id: id, Trader: trader, Price: price, Count: count}
}

func cancelAll(trader int) api.Command {
	return api.Command{What: api.CancelAll, Trader: trader}
}

func opening(book int) api.Command { return api.Command{What: api.Open, Book: book} }
func closing(book int) api.Command { return api.Command{What: api.Close, Book: book} }

// of tells a New as one of another kind.
func of(kind int, c api.Command) api.Command {
	c.Kind = kind
	return c
}

func refused(id int, e api.Errno) api.Event {
	return api.Event{What: api.Refused, Id: id, Error: e}
}

func taken(id, count int) api.Event { return api.Event{What: api.Taken, Id: id, Count: count} }

func rests(id, price, count int) api.Event {
	return api.Event{What: api.Rests, Id: id, Price: price, Count: count}
}

func gone(id, count int) api.Event { return api.Event{What: api.Gone, Id: id, Count: count} }

func traded(id, other, price, count int) api.Event {
	return api.Event{What: api.Traded, Id: id, Other: other, Price: price, Count: count}
}

func opened(price, count int) api.Event {
	return api.Event{What: api.Opened, Price: price, Count: count}
}

func closed() api.Event { return api.Event{What: api.Closed} }

// does checks the events of a command.
func does(t *testing.T, p *pit.Pit, c api.Command, want ...api.Event) {
	t.Helper()
	if got := p.Do(c); !slices.Equal(got, want) {
		t.Errorf("Do(%+v) = %+v, want %+v", c, got, want)
	}
}

// holds checks that a command is refused and changes nothing.
func holds(t *testing.T, p *pit.Pit, c api.Command, want api.Event) {
	t.Helper()
	before := view(p)
	does(t, p, c, want)
	if after := view(p); !reflect.DeepEqual(before, after) {
		t.Errorf("Do(%+v) was refused and changed %+v to %+v", c, before, after)
	}
}

// begun: a pit that was given some commands, none of which may be refused.
func begun(t *testing.T, l ...api.Command) *pit.Pit {
	t.Helper()
	p := pit.New()
	for _, c := range l {
		if e := p.Do(c); len(e) > 0 && e[0].What == api.Refused {
			t.Fatalf("Do(%+v) = %+v", c, e)
		}
	}
	return p
}

// trading: the same, book 1 is Trading first.
func trading(t *testing.T, l ...api.Command) *pit.Pit {
	t.Helper()
	return begun(t, append([]api.Command{opening(1)}, l...)...)
}

func depth(t *testing.T, p *pit.Pit, book, side, most int, want ...api.Level) {
	t.Helper()
	if got, e := p.Depth(book, side, most); !slices.Equal(got, want) || e != api.OK {
		t.Errorf("Depth(%d, %d, %d) = %+v, %d, want %+v", book, side, most, got, e, want)
	}
}

// seen is all that a pit tells of itself without being changed. (The numbers up to 400 are asked for, and the greatest.)
type seen struct {
	states []api.State
	levels [][]api.Level
	orders []api.Order
	volume int
}

func view(p *pit.Pit) seen {
	s := seen{volume: p.Volume()}
	for book := 1; book <= api.MaxBooks; book++ {
		x, _ := p.Look(book)
		s.states = append(s.states, x)
		for side := api.Buy; side <= api.Sell; side++ {
			l, _ := p.Depth(book, side, -1)
			s.levels = append(s.levels, slices.Clone(l))
		}
	}
	for id := 1; id <= 400; id++ {
		o, _ := p.Order(id)
		s.orders = append(s.orders, o)
	}
	o, _ := p.Order(api.MaxId)
	s.orders = append(s.orders, o)
	return s
}

// full: a pit with 200 orders of trader 1 in book 1, every other one sells.
func full(t *testing.T) *pit.Pit {
	t.Helper()
	p := pit.New()
	for i := range api.MaxResting {
		does(t, p, order(1+i, 1, 1, api.Buy+i%2, 100, 2), taken(1+i, 2), rests(1+i, 100, 2))
	}
	return p
}

// fullTrading: a pit whose book 1 trades, with 100 orders of trader 1 that buy at 100, and 100 that sell at 101.
func fullTrading(t *testing.T) *pit.Pit {
	t.Helper()
	p := trading(t)
	for i := range api.MaxResting {
		does(t, p, order(1+i, 1, 1, api.Buy+i%2, 100+i%2, 2), taken(1+i, 2), rests(1+i, 100+i%2, 2))
	}
	return p
}
