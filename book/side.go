package book

import (
	"slices"

	"pit/api"
)

// nobody is no trader's number.
const nobody = 0

// side is what rests on one side of a book, the best order first.
type side struct {
	orders []api.Order
	beats  func(price, at int) bool // above or below: set once, so that nobody asks which side this is
}

// above tells whether a price is better than that of the order at a place, for those that buy.
func (s *side) above(price, at int) bool { return price > s.orders[at].Price }

// below tells the same for those that sell.
func (s *side) below(price, at int) bool { return price < s.orders[at].Price }

// reached tells whether the order at a place is to be had by one of the other side who says a price.
// It is not where that price would be the better one here: as of a buyer who says less than a seller.
func (s *side) reached(price, at int) bool { return !s.beats(price, at) }

// always stands where reached does, for one who takes any price.
func (s *side) always(price, at int) bool { return true }

// place is behind all that are as good: of one price, who came first stays first.
func (s *side) place(price int) int {
	at := len(s.orders)
	for at > 0 && s.beats(price, at-1) {
		at--
	}
	return at
}

func (s *side) put(o api.Order) {
	s.orders = slices.Insert(s.orders, s.place(o.Price), o)
}

func (s *side) remove(at int) {
	s.orders = slices.Delete(s.orders, at, at+1)
}

// take trades some of the best order, which rests no more when nothing of it is open.
func (s *side) take(count int) {
	s.orders[0].Open -= count
	if s.orders[0].Open == 0 {
		s.remove(0)
	}
}

// find tells the place of an order, -1 if it does not rest here.
func (s *side) find(id int) int {
	for at := range s.orders {
		if s.orders[at].Id == id {
			return at
		}
	}
	return -1
}

// openAt tells how much is open here at a price, but for what is a trader's own.
func (s *side) openAt(price, own int) int {
	sum := 0
	for at := range s.orders {
		if s.reached(price, at) && s.orders[at].Trader != own {
			sum += s.orders[at].Open
		}
	}
	return sum
}

// levels tells the best prices, most of them at most, all if most is below 0.
func (s *side) levels(most int) []api.Level {
	var out []api.Level
	for _, o := range s.orders {
		last := len(out) - 1
		if last < 0 || out[last].Price != o.Price {
			if len(out) == most {
				break
			}
			out = append(out, api.Level{Price: o.Price})
			last++
		}
		out[last].Count += o.Open
		out[last].Orders++
	}
	return out
}
