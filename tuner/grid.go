package tuner

import (
	"midden/api"
	"midden/arena"
)

// Grid tells the neighbours of a configuration.
func Grid(c api.Config) []api.Config {
	if !arena.Valid(c) {
		return nil
	}
	var near []api.Config
	for i, step := range stepsOf(c) {
		for _, by := range [...]int{-step, step} {
			x := c
			*turned(&x)[i] += by
			if arena.Valid(x) {
				near = append(near, x)
			}
		}
	}
	return near
}

// turned tells the fields that are turned, in their order.
func turned(c *api.Config) [6]*int {
	return [...]*int{&c.Eden, &c.Survivor, &c.Large, &c.Num, &c.Target, &c.MaxAge}
}

// stepsOf tells by how much each of them is turned.
func stepsOf(c api.Config) [6]int {
	return [...]int{quarter(c.Eden), quarter(c.Survivor), quarter(c.Large), 1, 10, 1}
}

func quarter(n int) int { return max(1, n/4) }
