package sensor

import "ductility/api"

// centerOf returns the center of an image without errors.
func centerOf(image [][]int) api.SensorCenter {
	x, y, sum := 0, 0, 0
	for row, pixels := range image {
		for column, pixel := range pixels {
			x += column * pixel
			y += row * pixel
			sum += pixel
		}
	}
	return api.SensorCenter{X: fraction(x, sum), Y: fraction(y, sum)}
}

// CenterOf returns the center of an image.
func CenterOf(image [][]int) (api.SensorCenter, api.Errno) {
	if e := imageError(image); e != api.OK {
		return api.SensorCenter{}, e
	}
	return centerOf(image), api.OK
}

// MovedBy returns by what the center moved from one image to another one.
func MovedBy(first, second [][]int) (api.SensorCenter, api.Errno) {
	if e := firstOf(imageError(first), imageError(second)); e != api.OK {
		return api.SensorCenter{}, e
	}
	if len(first) != len(second) || len(first[0]) != len(second[0]) {
		return api.SensorCenter{}, api.ErrClash
	}
	// No part is greater than MaxPart: the greatest ones are those of images that are bright on 7 rows, or columns, of 10.
	before, after := centerOf(first), centerOf(second)
	return api.SensorCenter{X: minus(after.X, before.X), Y: minus(after.Y, before.Y)}, api.OK
}
