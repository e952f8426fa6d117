package ops

func (u Use) noCost() int {
	return 0
}

func (u Use) fillCost() int {
	return 1
}

func (u Use) placesCost() int {
	return u.Node.Rows * u.Node.Cols
}

func (u Use) timesCost() int {
	return 2 * u.placesCost() * u.A.Cols
}
