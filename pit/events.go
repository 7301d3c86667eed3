package pit

import "pit/api"

// refused is the whole answer to a command: with it nothing else is said.
func refused(id int, e api.Errno) []api.Event {
	return []api.Event{{What: api.Refused, Id: id, Error: e}}
}

func taken(o api.Order) api.Event {
	return api.Event{What: api.Taken, Id: o.Id, Count: o.Open}
}

func rests(o api.Order) api.Event {
	return api.Event{What: api.Rests, Id: o.Id, Price: o.Price, Count: o.Open}
}

func gone(o api.Order) api.Event {
	return api.Event{What: api.Gone, Id: o.Id, Count: o.Open}
}
