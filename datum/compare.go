package datum

import "treadle/api"

// comparison is a way to compare, by its number, and which answers of Compare it is met by.
type comparison struct {
	how int
	met func(order int) bool
}

// comparisons is all there are.
func comparisons() []comparison {
	return []comparison{
		{api.CompareEqual, func(order int) bool { return order == 0 }},
		{api.CompareUnlike, func(order int) bool { return order != 0 }},
		{api.CompareLess, func(order int) bool { return order < 0 }},
		{api.CompareMost, func(order int) bool { return order <= 0 }},
		{api.CompareGreater, func(order int) bool { return order > 0 }},
		{api.CompareLeast, func(order int) bool { return order >= 0 }},
	}
}
