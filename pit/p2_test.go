package pit_test

import (
	"reflect"
	"slices"
	"testing"

	"pit/api"
	"pit/pit"
)

// session: commands of every sort, such as are done and such as are refused.
func session() []api.Command {
	l := []api.Command{
		buy(1, 100, 5), buy(2, 100, 6), buy(3, 101, 7), sell(4, 90, 8), sell(5, 89, 9),
		order(6, 1, 2, api.Buy, 5, 5), order(7, 2, 1, api.Buy, 100, 1), order(8, 2, 8, api.Sell, 1, 1),
		buy(1, 100, 5), buy(9, 0, 5), {What: 9}, cancel(2, 2), cancel(2, 1),
		change(1, 1, 100, 4), change(1, 1, 100, 5), change(3, 1, 99, 7), change(99, 1, 1, 1),
		cancelAll(3), cancelAll(0), cancelAll(2), buy(2, 101, 3), cancelAll(1), buy(1, 1, 1),
	}
	for i := range 250 {
		l = append(l, order(10+i, 1+i%3, 3, api.Buy+i%2, 50+i%7, 1+i))
	}
	l = append(l, cancelAll(2), change(10, 1, 60, 2), opening(3), opening(1), opening(1), closing(2), opening(9))
	for i := range 60 { // every kind, at prices that meet and such that do not
		l = append(l, of(1+i%5, order(300+i, 1+i%4, 1+2*(i%2), api.Buy+i/5%2, 50+i%7, 1+20*i)))
	}
	return append(l, change(300, 1, 57, 90), cancelAll(1), closing(3), order(400, 2, 3, api.Buy, 100, 500), opening(3), closing(1))
}

// scribble writes into a list and its spare room.
func scribble[T any](l []T, mark T) {
	l = l[:cap(l)]
	for i := range l {
		l[i] = mark
	}
}

func TestP2WhatCameOutMayBeWrittenInto(t *testing.T) {
	marked, plain := pit.New(), pit.New()
	event := api.Event{What: -1, Id: -2, Other: -3, Price: -4, Count: -5, Error: -6}
	level := api.Level{Price: -1, Count: -2, Orders: -3}
	for _, c := range session() {
		got, want := marked.Do(c), plain.Do(c)
		if !slices.Equal(got, want) {
			t.Fatalf("Do(%+v) = %+v, want %+v", c, got, want)
		}
		scribble(got, event)
		for book := 1; book <= 3; book++ {
			for side := api.Buy; side <= api.Sell; side++ {
				l, _ := marked.Depth(book, side, -1)
				scribble(l, level)
				l, _ = marked.Depth(book, side, 1)
				scribble(l, level)
			}
		}
		if got, want := view(marked), view(plain); !reflect.DeepEqual(got, want) {
			t.Fatalf("after Do(%+v): %+v, want %+v", c, got, want)
		}
	}
}

// kept is a list that came out, spare room and all, and what stood in it then.
type kept[T comparable] struct{ list, copy []T }

func keep[T comparable](l []T) kept[T] {
	l = l[:cap(l)]
	return kept[T]{l, slices.Clone(l)}
}

// eachAlone writes into one list after the other and checks that all others stay.
func eachAlone[T comparable](t *testing.T, l []kept[T], mark T) {
	t.Helper()
	for i, x := range l {
		scribble(x.list, mark)
		for j, y := range l {
			if j != i && !slices.Equal(y.list, y.copy) {
				t.Fatalf("writing into list %d changed list %d", i, j)
			}
		}
		copy(x.list, x.copy)
	}
}

func TestP2WhatCameOutBeforeStays(t *testing.T) {
	p := pit.New()
	var events []kept[api.Event]
	var levels []kept[api.Level]
	for _, c := range session() {
		events = append(events, keep(p.Do(c)))
		for _, most := range []int{-1, 1, 5} {
			for side := api.Buy; side <= api.Sell; side++ {
				for _, book := range []int{1, 3} {
					l, _ := p.Depth(book, side, most)
					levels = append(levels, keep(l))
				}
			}
		}
	}
	for i, x := range events {
		if !slices.Equal(x.list, x.copy) {
			t.Fatalf("list %d of events was changed by later calls", i)
		}
	}
	for i, x := range levels {
		if !slices.Equal(x.list, x.copy) {
			t.Fatalf("list %d of levels was changed by later calls", i)
		}
	}
	eachAlone(t, events, api.Event{What: -1})
	eachAlone(t, levels, api.Level{Price: -1})
}

func TestP2PitsAreApart(t *testing.T) {
	p, other, alone := pit.New(), pit.New(), pit.New()
	for i, c := range session() {
		other.Do(order(1+i, 7, 1+i%8, api.Sell, 100, 3))
		got, want := p.Do(c), alone.Do(c)
		if !slices.Equal(got, want) {
			t.Fatalf("Do(%+v) = %+v, want %+v", c, got, want)
		}
		other.Do(cancelAll(1))
	}
	if got, want := view(p), view(alone); !reflect.DeepEqual(got, want) {
		t.Errorf("%+v, want %+v", got, want)
	}
}
