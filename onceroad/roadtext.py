"""Roads written as texts, and read again."""

from onceroad.roads import Road
from onceroad.walktext import go_along, show_walk, words_from_start


def show_road(road):
    return show_walk(road)


def read_road(web, text):
    words = words_from_start(web, text)
    road = Road(web, words[0])
    go_along(road, words)
    return road
